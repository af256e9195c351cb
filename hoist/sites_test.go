package hoist

import (
	"fmt"
	"math/rand"
	"strings"
	"testing"

	"hoist/api"
)

func newSite(t *testing.T, stock string) *Site {
	t.Helper()
	site, e := New(stock)
	if site == nil || e != api.OK {
		t.Fatalf("P5: New(%.80q) = %v, %d", stock, site, e)
	}
	return site
}

func checkNew(t *testing.T, stock string, want api.Errno) {
	t.Helper()
	site, e := New(stock)
	if e != want || (site == nil) != (e != api.OK) {
		t.Errorf("P5: New(%.80q) = %v, %d, want %d", stock, site, e, want)
		return
	}
	if site != nil {
		checkSite(t, site, "", "")
	}
}

func checkSite(t *testing.T, site *Site, needs string, tree string) {
	t.Helper()
	if got := site.Needs(); got != needs {
		t.Errorf("P8: the needs are %q, want %q", got, needs)
	}
	if got := site.Tree(); got != tree {
		t.Errorf("P8: the tree is\n%q, want\n%q", got, tree)
	}
}

// makeCall makes a call of a site: +need for Add, -name for Drop, <tree for
// Load, _ for Slim, ! for Update.
func makeCall(site *Site, call string) api.Errno {
	switch call[0] {
	case '+':
		return site.Add(call[1:])
	case '-':
		return site.Drop(call[1:])
	case '<':
		return site.Load(call[1:])
	case '_':
		site.Slim()
		return api.OK
	}
	return site.Update()
}

// checkCalls makes calls that go well, with a blank between each two, and looks
// at the site behind them.
func checkCalls(t *testing.T, stock string, calls string, needs string, tree string) *Site {
	t.Helper()
	site := newSite(t, stock)
	for _, call := range strings.Fields(calls) {
		if e := makeCall(site, call); e != api.OK {
			t.Errorf("P6, P7, P10: %q of %q is %d", call, calls, e)
		}
	}
	checkSite(t, site, needs, tree)
	return site
}

// checkRefused makes a call that is refused, and looks whether the site is as
// before.
func checkRefused(t *testing.T, site *Site, call string, want api.Errno) {
	t.Helper()
	needs := site.Needs()
	tree := site.Tree()
	if e := makeCall(site, call); e != want {
		t.Errorf("P6, P7, P10: %.80q is %d, want %d", call, e, want)
	}
	checkSite(t, site, needs, tree)
}

const documentsStock = "a@1.0.0:b^1.0.0;b@1.0.0;b@1.4.0;b@2.0.0:a*;c@1.0.0:b^1.0.0,d*;d@1.0.0:b=1.0.0"

func TestDocumentsExamplesOfSites(t *testing.T) {
	for _, c := range []struct{ calls, needs, tree string }{
		{"+a*", "a*", "a@1.0.0;b@1.4.0"},
		{"+b^2.0.0 +a*", "a*,b^2.0.0", "a@1.0.0;a/b@1.4.0;b@2.0.0"},
		{"+a* +b^2.0.0", "a*,b^2.0.0", "a@1.0.0;a/b@1.4.0;b@2.0.0"},
		{"+b^2.0.0 +c*", "b^2.0.0,c*", "a@1.0.0;a/b@1.4.0;b@2.0.0;c@1.0.0;c/b@1.4.0;d@1.0.0;d/b@1.0.0"},
		{"+b=1.0.0 +b^1.0.0", "b^1.0.0", "b@1.0.0"},
		{"+b=1.0.0 +b^1.0.0 !", "b^1.0.0", "b@1.4.0"},
		{"+c* +b=1.0.0", "b=1.0.0,c*", "b@1.0.0;c@1.0.0;d@1.0.0"},
		{"+a* +c* -a", "c*", "b@1.4.0;c@1.0.0;d@1.0.0;d/b@1.0.0"},
	} {
		checkCalls(t, documentsStock, c.calls, c.needs, c.tree)
	}
	site := checkCalls(t, documentsStock, "+a*", "a*", "a@1.0.0;b@1.4.0")
	checkRefused(t, site, "+x*", api.ErrNoMatch)
	checkRefused(t, site, "+b^3.0.0", api.ErrNoMatch)
	checkRefused(t, site, "-b", api.ErrNone)
	checkRefused(t, site, "+b", api.ErrText)
	checkNew(t, "a@1.0.0;a@1.0.0", api.ErrTwice)
	checkNew(t, "a@1.0.0:b*,b*", api.ErrTwice)
	checkNew(t, "a@1.0.0;", api.ErrText)
	checkNew(t, "a@1.0.0:", api.ErrText)
}

func TestP5Stocks(t *testing.T) {
	for _, stock := range []string{
		"", "a@0.0.0", "zzz@99.99.99", "ab@1.0.0", "a@1.0.0;a@1.0.1;a@1.1.0;a@2.0.0", "a@1.0.0;b@1.0.0", "a@1.0.0;ab@1.0.0;abc@1.0.0",
		"a@1.0.0:a*", "a@1.0.0:b*", "a@1.0.0:b*,a*", "a@1.0.0:b*,ab*,abc*", "a@1.0.0:b<0.0.0", "a@1.0.0:b>=1.0.0&<2.0.0|=3.0.0;b@1.0.0:a*",
		"a@1.0.0:b*;b@1.0.0:b*", "b@1.0.0;a@1.0.0:b*", "a@1.0.0:b=1.0.0|=2.0.0,c~0.0.1",
	} {
		checkNew(t, stock, api.OK)
	}
}

func wrongStocks() []string {
	return []string{
		";", ";;", "a@1.0.0;", ";a@1.0.0", "a@1.0.0;;b@1.0.0", " ", "a@1.0.0 ", " a@1.0.0", "a@1.0.0; b@1.0.0", "a@1.0.0,b@1.0.0", "a@1.0.0\n",
		"a", "@", "a@", "@1.0.0", "1.0.0", "a1.0.0", "a@1", "a@1.0", "a@1.0.0.0", "a@1.0.100", "a@01.0.0", "a@*", "a@=1.0.0", "a@@1.0.0", "a@1.0.0@", "a@1.0.0@1.0.0",
		"A@1.0.0", "a1@1.0.0", "a-b@1.0.0", "a/b@1.0.0", "abcd@1.0.0", "\xff@1.0.0", "é@1.0.0", "`@1.0.0", "{@1.0.0",
		"a:b*", "a:b*@1.0.0", "a@1.0.0:", "a@1.0.0::b*", "a@1.0.0:b*:", "a@1.0.0:b*:c*", "a@1.0.0:b", "a@1.0.0:*", "a@1.0.0:,", "a@1.0.0:b*,", "a@1.0.0:,b*", "a@1.0.0:b*,,c*", "a@1.0.0:b*,c", "a@1.0.0:b *", "a@1.0.0:b@1.0.0", "a@1.0.0:b1.0.0", "a@1.0.0:abcd*", "a@1.0.0:B*", "a@1.0.0:b=1.0", "a@1.0.0:b*|", "a@1.0.0:b*&", "a@1.0.0:b**",
		"\x00", "a@1.0.0\x00", "*", "a*",
	}
}

func TestP5WrongStocks(t *testing.T) {
	for _, stock := range wrongStocks() {
		checkNew(t, stock, api.ErrText)
		checkNew(t, "b@1.0.0;"+stock, api.ErrText)
		checkNew(t, stock+";b@1.0.0", api.ErrText)
	}
}

func TestP5Twice(t *testing.T) {
	for _, stock := range []string{
		"a@1.0.0;a@1.0.0", "a@1.0.0;b@1.0.0;a@1.0.0", "b@1.0.0;a@1.0.0;c@1.0.0;a@1.0.0", "a@1.0.0:b*;a@1.0.0:c*", "a@1.0.0;a@1.0.0:b*",
		"a@1.0.0:b*,b*", "a@1.0.0:b*,c*,b=1.0.0", "a@1.0.0:a=1.0.0,a=2.0.0", "c@1.0.0;a@1.0.0:d*,abc*,c*,b*,abc*", "a@1.0.0:a*,b*,c*,d*,e*,a*",
	} {
		checkNew(t, stock, api.ErrTwice)
		checkNew(t, "x@1.0.0;"+stock+";y@1.0.0", api.ErrTwice)
	}
}

// P1: of several errors the one that is named first.
func TestP5FirstErrorIsAnswered(t *testing.T) {
	for _, stock := range wrongStocks() {
		checkNew(t, "b@1.0.0;b@1.0.0;"+stock, api.ErrText)
		checkNew(t, stock+";b@1.0.0;b@1.0.0", api.ErrText)
		checkNew(t, "b@1.0.0:c*,c*;"+stock, api.ErrText)
		checkNew(t, stock+strings.Repeat(" ", api.MaxStock), api.ErrLong)
	}
	checkNew(t, "a@1.0.0:"+strings.Repeat("b*,", api.MaxNeeds)+"b*", api.ErrText)
	checkNew(t, strings.Repeat("a@1.0.0;", api.MaxEntries)+"a@1.0.0", api.ErrText)
	checkNew(t, strings.Repeat("a@1.0.0;", api.MaxStock), api.ErrLong)
}

// rangeOf tells a range of so many bytes that all versions fit.
func rangeOf(length int) string {
	if length%2 == 0 {
		return "=1.0.0" + strings.Repeat("|*", (length-6)/2)
	}
	return "*" + strings.Repeat("|*", (length-1)/2)
}

// stockOf tells a stock of so many bytes, of MaxEntries entries.
func stockOf(t *testing.T, length int) string {
	t.Helper()
	var entries []string
	for i := range api.MaxEntries {
		rest := rangeOf(36)
		if i == api.MaxEntries-1 {
			rest = rangeOf(36 + length - 3999)
		}
		entries = append(entries, fmt.Sprintf("a@1.%d.0:a%s,b%s", 10+i, rangeOf(51), rest))
	}
	stock := strings.Join(entries, ";")
	if len(stock) != length {
		t.Fatalf("%d bytes, want %d", len(stock), length)
	}
	return stock
}

func TestP5StockOfMaxStockBytes(t *testing.T) {
	checkNew(t, stockOf(t, api.MaxStock-1), api.OK)
	checkNew(t, stockOf(t, api.MaxStock), api.OK)
	checkNew(t, stockOf(t, api.MaxStock+1), api.ErrLong)
	checkNew(t, strings.Repeat("x", api.MaxStock), api.ErrText)
	checkNew(t, strings.Repeat("x", api.MaxStock+1), api.ErrLong)
	checkNew(t, strings.Repeat(";", api.MaxStock), api.ErrText)
	checkNew(t, strings.Repeat(";", 3000000), api.ErrLong)
}

// versionsOf tells entries of one name in so many versions, up to 1.count.0.
func versionsOf(name string, count int) string {
	var entries []string
	for i := range count {
		entries = append(entries, fmt.Sprintf("%s@1.%d.0", name, i+1))
	}
	return strings.Join(entries, ";")
}

func TestP5MaxEntries(t *testing.T) {
	checkNew(t, versionsOf("a", api.MaxEntries), api.OK)
	checkNew(t, versionsOf("a", api.MaxEntries+1), api.ErrText)
	checkCalls(t, versionsOf("a", api.MaxEntries), "+a*", "a*", "a@1.40.0")
}

func TestP5MaxNeedsOfAnEntry(t *testing.T) {
	others := ";b@1.0.0;c@1.0.0;d@1.0.0;e@1.0.0;f@1.0.0;g@1.0.0;h@1.0.0"
	checkCalls(t, "a@1.0.0:g*,f*,e*,d*,c*,b*"+others, "+a*", "a*", "a@1.0.0;b@1.0.0;c@1.0.0;d@1.0.0;e@1.0.0;f@1.0.0;g@1.0.0")
	checkNew(t, "a@1.0.0:b*,c*,d*,e*,f*,g*,h*"+others, api.ErrText)
}

func TestNamesOfOneThreeAndFourLetters(t *testing.T) {
	for _, name := range []string{"a", "m", "xx", "abc", "xxx"} {
		site := checkCalls(t, name+"@1.0.0;y@1.0.0:"+name+"=1.0.0", "+y*", "y*", name+"@1.0.0;y@1.0.0")
		if e := site.Add(name + "*"); e != api.OK {
			t.Errorf("P6: Add(%q) is %d", name+"*", e)
		}
		if e := site.Drop(name); e != api.OK {
			t.Errorf("P7: Drop(%q) is %d", name, e)
		}
	}
	checkNew(t, "abcd@1.0.0", api.ErrText)
	checkNew(t, "a@1.0.0:abcd*", api.ErrText)
	site := newSite(t, "abc@1.0.0")
	checkRefused(t, site, "+abcd*", api.ErrText)
	checkRefused(t, site, "-abcd", api.ErrNone)
}

func TestP6SiteNeedsOfMaxNeeds(t *testing.T) {
	stock := "a@1.0.0;b@1.0.0;c@1.0.0;d@1.0.0;e@1.0.0;f@1.0.0;g@1.0.0"
	full := "a@1.0.0;b@1.0.0;c@1.0.0;d@1.0.0;e@1.0.0;f@1.0.0"
	site := checkCalls(t, stock, "+f* +b* +d* +a* +c* +e*", "a*,b*,c*,d*,e*,f*", full)
	checkRefused(t, site, "+g*", api.ErrMany)
	checkRefused(t, site, "+x*", api.ErrMany) // nothing fits either, but that is named later
	checkRefused(t, site, "+ab*", api.ErrMany)
	checkRefused(t, site, "+g", api.ErrText)
	checkRefused(t, site, "+f^2.0.0", api.ErrNoMatch) // in the place of one, so not too many
	if e := site.Add("c=1.0.0"); e != api.OK {
		t.Errorf("P6: Add in the place of another is %d", e)
	}
	checkSite(t, site, "a*,b*,c=1.0.0,d*,e*,f*", full)
	if e := site.Drop("a"); e != api.OK {
		t.Errorf("P7: Drop is %d", e)
	}
	if e := site.Add("g*"); e != api.OK {
		t.Errorf("P6: Add of the last that there may be is %d", e)
	}
	checkSite(t, site, "b*,c=1.0.0,d*,e*,f*,g*", full[len("a@1.0.0;"):]+";g@1.0.0")
}

func wrongNeeds() []string {
	return []string{
		"", " ", "a", "abc", "abcd", "*", "=1.0.0", "1.0.0", "A*", "aB*", "a1*", "a *", " a*", "a* ", "a*\n", "a**", "a*|", "a*&", "a|*", "a*,", ",a*", "a*,b*", "a*;", "a@1.0.0", "a:b*", "a/b*", "abcd*", "a=1.0", "a=1.0.100", "a1.0.0", "é*", "\xff*", "a\x00*", "`*", "{*",
		"a" + rangeOf(api.MaxRange+1), strings.Repeat("a", 3000000), strings.Repeat("a", 3000000) + "*", "a" + strings.Repeat("*|", 3000000) + "*", strings.Repeat("a*,", 1000000),
	}
}

func TestP6WrongNeeds(t *testing.T) {
	site := checkCalls(t, documentsStock, "+a*", "a*", "a@1.0.0;b@1.4.0")
	for _, text := range wrongNeeds() {
		checkRefused(t, site, "+"+text, api.ErrText)
	}
}

func TestP6RangeOfMaxRangeBytes(t *testing.T) {
	longest := "b" + strings.Repeat("<0.0.0|", 7) + "*&<=1.99.99"
	if len(longest) != 1+api.MaxRange {
		t.Fatalf("%d bytes", len(longest))
	}
	site := checkCalls(t, documentsStock, "+"+longest, longest, "b@1.4.0")
	checkRefused(t, site, "+b|"+longest[1:], api.ErrText)
	checkRefused(t, site, "+b*|"+longest[3:], api.ErrText)
}

func TestP6NothingThatFits(t *testing.T) {
	site := checkCalls(t, documentsStock+";e@1.0.0:f*;g@1.0.0:a*,b^3.0.0;h@1.0.0:e*", "+a*", "a*", "a@1.0.0;b@1.4.0")
	for _, need := range []string{"x*", "ab*", "aa*", "b^3.0.0", "a=2.0.0", "a<0.0.0", "b>1.0.0&<1.4.0", "e*", "g*", "h*"} {
		checkRefused(t, site, "+"+need, api.ErrNoMatch)
	}
	checkRefused(t, newSite(t, ""), "+a*", api.ErrNoMatch)
}

func TestP7WrongNames(t *testing.T) {
	site := checkCalls(t, documentsStock, "+a* +c*", "a*,c*", "a@1.0.0;b@1.4.0;c@1.0.0;d@1.0.0;d/b@1.0.0")
	// b and d are in the tree, but the site itself does not need them.
	for _, name := range []string{"b", "d", "x", "", " ", "A", "a*", "a@1.0.0", "a,c", "a ", "aa", "ac", "abcd", "\x00", strings.Repeat("a", 3000000)} {
		checkRefused(t, site, "-"+name, api.ErrNone)
	}
	checkRefused(t, newSite(t, ""), "-a", api.ErrNone)
	checkRefused(t, newSite(t, documentsStock), "-a", api.ErrNone)
}

func TestP7Drop(t *testing.T) {
	checkCalls(t, documentsStock, "+a* -a", "", "")
	checkCalls(t, documentsStock, "+c* +b=1.0.0 -b", "c*", "b@1.0.0;c@1.0.0;d@1.0.0")
	checkCalls(t, documentsStock, "+a* +b^2.0.0 -b", "a*", "a@1.0.0;b@1.4.0")
	// The site's needs are gone when they are dropped, and come anew.
	site := checkCalls(t, documentsStock, "+a* +c* -a -c", "", "")
	checkRefused(t, site, "-a", api.ErrNone)
	checkCalls(t, documentsStock, "+a* -a +a*", "a*", "a@1.0.0;b@1.4.0")
}

func TestP7Update(t *testing.T) {
	checkCalls(t, documentsStock, "!", "", "")
	checkCalls(t, documentsStock, "+b=1.0.0 +b* !", "b*", "a@1.0.0;a/b@1.4.0;b@2.0.0")
	checkCalls(t, documentsStock, "+c* +b=1.0.0 -b !", "c*", "b@1.4.0;c@1.0.0;d@1.0.0;d/b@1.0.0")
	// The tree behind Update is the one that is favoured from then on.
	checkCalls(t, documentsStock, "+b=1.0.0 +b^1.0.0 ! +b<2.0.0", "b<2.0.0", "b@1.4.0")
}

// crowd has k packages that need p=1.0.0, and one that needs p=2.0.0: whichever
// version lies in the outermost folder, the others have p of their own.
func crowd(count int) string {
	stock := "a@1.0.0:p=2.0.0;p@1.0.0;p@2.0.0"
	for i := range count {
		next := ""
		if i+1 < count {
			next = fmt.Sprintf(",k%c*", 'a'+i+1)
		}
		stock += fmt.Sprintf(";k%c@1.0.0:p=1.0.0%s", 'a'+i, next)
	}
	return stock
}

func TestP7DropThatIsRefused(t *testing.T) {
	for _, c := range []struct {
		count int
		want  api.Errno
	}{{19, api.OK}, {20, api.ErrFull}} { // 2 packages and 2 for each k: 40 and 42
		site := newSite(t, crowd(c.count))
		for _, call := range []string{"+a*", "+p=1.0.0", "+ka*"} {
			if e := makeCall(site, call); e != api.OK {
				t.Fatalf("P6: %q is %d", call, e)
			}
		}
		tree := site.Tree()
		if e := site.Drop("p"); e != c.want {
			t.Errorf("P7: with %d Drop is %d, want %d", c.count, e, c.want)
		}
		if c.want != api.OK {
			checkSite(t, site, "a*,ka*,p=1.0.0", tree)
		} else if count := strings.Count(site.Tree(), "@"); count != api.MaxPackages {
			t.Errorf("P7: %d packages", count)
		}
	}
}

func TestP7UpdateThatIsRefused(t *testing.T) {
	site := checkCalls(t, "p@1.0.0;p@2.0.0:x*;q@1.0.0", "+p=1.0.0 +p* +q*", "p*,q*", "p@1.0.0;q@1.0.0")
	checkRefused(t, site, "!", api.ErrNoMatch)
	// What was refused leaves 1.0.0 favoured, as it was.
	if e := site.Drop("q"); e != api.OK {
		t.Errorf("P7: Drop is %d", e)
	}
	checkSite(t, site, "p*", "p@1.0.0")

	site = newSite(t, crowd(20))
	for _, call := range []string{"+p=1.0.0", "+p*", "+ka*"} {
		if e := makeCall(site, call); e != api.OK {
			t.Fatalf("P6: %q is %d", call, e)
		}
	}
	checkRefused(t, site, "!", api.ErrFull)
}

// nest tells a stock of g in so many versions: each needs the next, so that it
// lies in the folder of the one ahead; the last has another need.
func nest(count int, last string) string {
	var entries []string
	for i := 1; i < count; i++ {
		entries = append(entries, fmt.Sprintf("g@%d.0.0:g=%d.0.0", i, i+1))
	}
	return strings.Join(append(entries, fmt.Sprintf("g@%d.0.0:%s", count, last)), ";")
}

func nested(count int) string {
	var texts []string
	for i := range count {
		texts = append(texts, fmt.Sprintf("g%s@%d.0.0", strings.Repeat("/g", i), i+1))
	}
	return strings.Join(texts, ";")
}

func TestP6MaxPackages(t *testing.T) {
	site := checkCalls(t, nest(api.MaxPackages, "g=40.0.0"), "+g=1.0.0", "g=1.0.0", nested(api.MaxPackages))
	checkRefused(t, site, "+g=0.0.0", api.ErrNoMatch)
	if e := site.Update(); e != api.OK {
		t.Errorf("P7: Update with all packages that there may be is %d", e)
	}
	checkRefused(t, newSite(t, nest(api.MaxPackages, "g=1.0.0")), "+g=1.0.0", api.ErrFull)

	site = checkCalls(t, nest(38, "g*")+";h@1.0.0:i*;i@1.0.0", "+g=1.0.0 +h*", "g=1.0.0,h*", nested(38)+";h@1.0.0;i@1.0.0")
	checkRefused(t, site, "-i", api.ErrNone)
	site = checkCalls(t, nest(38, "g*")+";h@1.0.0:i=2.0.0;i@2.0.0", "+h* +g=1.0.0", "g=1.0.0,h*", nested(38)+";h@1.0.0;i@2.0.0")
	checkRefused(t, site, "+i=1.0.0", api.ErrNoMatch)
	site = checkCalls(t, nest(37, "g*")+";h@1.0.0:i=2.0.0;i@2.0.0;i@1.0.0", "+h* +g=1.0.0", "g=1.0.0,h*", nested(37)+";h@1.0.0;i@2.0.0")
	if e := site.Add("i=1.0.0"); e != api.OK {
		t.Errorf("P6: Add of the last package that there may be is %d", e)
	}
	checkSite(t, site, "g=1.0.0,h*,i=1.0.0", nested(37)+";h@1.0.0;h/i@2.0.0;i@1.0.0")
}

// Both errors of building apply, and the one that is named first is answered.
func TestP6NothingFitsAndFull(t *testing.T) {
	checkRefused(t, newSite(t, nest(api.MaxPackages, "x*")), "+g=1.0.0", api.ErrNoMatch)
	checkRefused(t, newSite(t, nest(api.MaxPackages, "g<1.0.0")), "+g=1.0.0", api.ErrNoMatch)
	// The first need that has an error: x comes behind g, a ahead of it.
	checkRefused(t, newSite(t, nest(api.MaxPackages, "g=1.0.0,x*")), "+g=1.0.0", api.ErrFull)
	checkRefused(t, newSite(t, nest(api.MaxPackages, "g=1.0.0,a*")), "+g=1.0.0", api.ErrNoMatch)
}

// b@2.0.0 is laid for a, and z for b; then c has a/b@1.0.0 laid, which serves a
// too. So b and z need each other, b finds itself, and yet they are not in use.
const loose = "a@1.0.0:b*,c=1.0.0;b@1.0.0;b@2.0.0:b*,z*;c@1.0.0:b=1.0.0;c@2.0.0;z@1.0.0:b=2.0.0,z*"

func TestP6WhatIsNotInUseIsTakenAway(t *testing.T) {
	checkCalls(t, loose, "+c=2.0.0 +a*", "a*,c=2.0.0", "a@1.0.0;a/b@1.0.0;a/c@1.0.0;c@2.0.0")
	checkCalls(t, loose, "+z* +c=2.0.0 +a*", "a*,c=2.0.0,z*", "a@1.0.0;a/b@1.0.0;a/c@1.0.0;b@2.0.0;c@2.0.0;z@1.0.0")
	checkCalls(t, loose, "+z* +c=2.0.0 +a* -z", "a*,c=2.0.0", "a@1.0.0;a/b@1.0.0;a/c@1.0.0;c@2.0.0")
	// Taken away with all that lies in its folder.
	inside := strings.Replace(loose, "z@1.0.0:b=2.0.0,z*", "z@1.0.0:b=2.0.0,c=3.0.0;c@3.0.0", 1)
	checkCalls(t, inside, "+c=2.0.0 +a*", "a*,c=2.0.0", "a@1.0.0;a/b@1.0.0;a/c@1.0.0;c@2.0.0")
}

// While a tree is being built, what will not be in use counts too: b@2.0.0 and z
// besides the 38 packages of the first tree, or the 39 that a second would have.
func TestP6FullWithWhatIsNotInUse(t *testing.T) {
	stock := strings.Replace(loose, "c@2.0.0", "c@2.0.0:g=1.0.0", 1) + ";"
	inG := strings.Replace(nested(32), "g/g@", "g/b@1.0.0;g/c@1.0.0;g/g@", 1)
	checkCalls(t, stock+nest(32, "c=1.0.0"), "+a* +c=2.0.0", "a*,c=2.0.0", "a@1.0.0;a/b@1.0.0;a/c@1.0.0;c@2.0.0;"+inG)
	site := newSite(t, stock+nest(33, "c=1.0.0"))
	if e := site.Add("a*"); e != api.OK {
		t.Fatalf("P6: Add is %d", e)
	}
	checkRefused(t, site, "+c=2.0.0", api.ErrFull)
}

func TestP6FavouredVersions(t *testing.T) {
	stock := "a@1.0.0:b<2.0.0;b@1.0.0;b@1.5.0;b@2.0.0;b@3.0.0;c@1.0.0:b*"
	for _, c := range []struct{ calls, needs, tree string }{
		{"+b*", "b*", "b@3.0.0"},
		{"+b=1.0.0 +b*", "b*", "b@1.0.0"},
		{"+b=1.0.0 +b>1.0.0", "b>1.0.0", "b@3.0.0"}, // the favoured one does not fit
		{"+b=1.0.0 -b +b*", "b*", "b@3.0.0"},        // of the tree as it is now, not as it was
		{"+b=1.0.0 +c*", "b=1.0.0,c*", "b@1.0.0;c@1.0.0"},
		{"+b=1.0.0 +c* -b", "c*", "b@1.0.0;c@1.0.0"}, // Drop favours as Add does
		{"+b=1.0.0 +c* -b !", "c*", "b@3.0.0;c@1.0.0"},
		{"+b=1.0.0 +a* +b=2.0.0", "a*,b=2.0.0", "a@1.0.0;a/b@1.0.0;b@2.0.0"},
		{"+b=1.0.0 +a* +b=2.0.0 -b", "a*", "a@1.0.0;b@1.0.0"},               // favoured though it lies deeper
		{"+b=1.0.0 +a* +b=2.0.0 +b*", "a*,b*", "a@1.0.0;a/b@1.0.0;b@2.0.0"}, // of two favoured the greater
		{"+b=1.0.0 +a* +b=2.0.0 +b<=2.0.0", "a*,b<=2.0.0", "a@1.0.0;a/b@1.0.0;b@2.0.0"},
		{"+b=1.0.0 +a* +b=2.0.0 +b<2.0.0", "a*,b<2.0.0", "a@1.0.0;b@1.0.0"},
		{"+a*", "a*", "a@1.0.0;b@1.5.0"},
		{"+a* +b*", "a*,b*", "a@1.0.0;b@1.5.0"},         // that of a, 1.0.0, is not favoured of b
		{"+c* +a*", "a*,c*", "a@1.0.0;b@1.5.0;c@1.0.0"}, // 3.0.0 is favoured, but what is there meets the need
	} {
		checkCalls(t, stock, c.calls, c.needs, c.tree)
	}
}

// In whichever order the entries stand, and with favoured ones ahead or behind.
func TestP6GreatestVersion(t *testing.T) {
	for _, stock := range []string{"b@1.0.0;b@2.9.0;b@2.10.0", "b@2.10.0;b@2.9.0;b@1.0.0", "b@2.9.0;b@2.10.0;b@1.0.0", "b@2.9.0;b@1.0.0;b@2.10.0"} {
		checkCalls(t, stock, "+b*", "b*", "b@2.10.0")
		checkCalls(t, stock, "+b<2.10.0", "b<2.10.0", "b@2.9.0")
		checkCalls(t, stock, "+b=2.9.0 +b*", "b*", "b@2.9.0")
		checkCalls(t, stock, "+b=1.0.0 +b*", "b*", "b@1.0.0")
	}
	checkCalls(t, "a@0.0.0", "+a*", "a*", "a@0.0.0")
}

func TestP6NeedInThePlaceOfAnother(t *testing.T) {
	site := checkCalls(t, documentsStock, "+d* +a* +b=1.0.0", "a*,b=1.0.0,d*", "a@1.0.0;b@1.0.0;d@1.0.0")
	checkRefused(t, site, "+b=3.0.0", api.ErrNoMatch)
	if e := site.Add("b=2.0.0"); e != api.OK {
		t.Errorf("P6: Add is %d", e)
	}
	checkSite(t, site, "a*,b=2.0.0,d*", "a@1.0.0;a/b@1.0.0;b@2.0.0;d@1.0.0;d/b@1.0.0")
	if e := site.Drop("b"); e != api.OK {
		t.Errorf("P7: Drop is %d", e)
	}
	checkSite(t, site, "a*,d*", "a@1.0.0;b@1.0.0;d@1.0.0")
	checkRefused(t, site, "-b", api.ErrNone)
}

func TestP6PackageThatFindsItself(t *testing.T) {
	checkCalls(t, "a@1.0.0:a*", "+a*", "a*", "a@1.0.0")
	checkCalls(t, "a@1.0.0:a=1.0.0", "+a* !", "a*", "a@1.0.0")
	checkCalls(t, "a@1.0.0:a=2.0.0;a@2.0.0:a>1.0.0", "+a=1.0.0", "a=1.0.0", "a@1.0.0;a/a@2.0.0")
	checkCalls(t, "a@1.0.0:a=2.0.0;a@2.0.0", "+a=1.0.0", "a=1.0.0", "a@1.0.0;a/a@2.0.0")
	checkCalls(t, "a@1.0.0:b*;b@1.0.0:a*", "+a*", "a*", "a@1.0.0;b@1.0.0")
	// It finds itself ahead of what lies further out.
	checkCalls(t, "a@1.0.0;a@2.0.0:a*;b@1.0.0:a=2.0.0", "+a=1.0.0 +b*", "a=1.0.0,b*", "a@1.0.0;b@1.0.0;b/a@2.0.0")
	checkRefused(t, newSite(t, "a@1.0.0:a=2.0.0;a@2.0.0:a=1.0.0"), "+a*", api.ErrFull)
}

func TestP6FolderThatWillDo(t *testing.T) {
	stock := "b@1.0.0;b@2.0.0;c@1.0.0:b=2.0.0;c@2.0.0;d@1.0.0:b=1.0.0,c=1.0.0;e@1.0.0:b*,c=1.0.0;f@1.0.0:c=1.0.0;g@1.0.0:b=2.0.0,h*;h@1.0.0:b=1.0.0"
	taken := "+b=1.0.0 +c=2.0.0 "
	// In d's folder b@2.0.0 would be found for d's need of b@1.0.0.
	checkCalls(t, stock, taken+"+d*", "b=1.0.0,c=2.0.0,d*", "b@1.0.0;c@2.0.0;d@1.0.0;d/c@1.0.0;d/c/b@2.0.0")
	// In e's folder it meets e's need too, in f's there is no other.
	checkCalls(t, stock, taken+"+e*", "b=1.0.0,c=2.0.0,e*", "b@1.0.0;c@2.0.0;e@1.0.0;e/b@2.0.0;e/c@1.0.0")
	checkCalls(t, stock, taken+"+f*", "b=1.0.0,c=2.0.0,f*", "b@1.0.0;c@2.0.0;f@1.0.0;f/b@2.0.0;f/c@1.0.0")
	checkCalls(t, stock, "+d*", "d*", "b@1.0.0;c@1.0.0;c/b@2.0.0;d@1.0.0")
	checkCalls(t, stock, "+g*", "g*", "b@2.0.0;g@1.0.0;h@1.0.0;h/b@1.0.0")
	checkCalls(t, stock, "+g* +b=1.0.0", "b=1.0.0,g*", "b@1.0.0;g@1.0.0;g/b@2.0.0;h@1.0.0")
	// A free folder further out does not help, where one that lies deeper hides it.
	checkCalls(t, "a@1.0.0:b=1.0.0,c=1.0.0;b@1.0.0;b@2.0.0;c@1.0.0:b=1.0.0;c@2.0.0:b=2.0.0", "+b=2.0.0 +c=2.0.0 +a*", "a*,b=2.0.0,c=2.0.0", "a@1.0.0;a/b@1.0.0;a/c@1.0.0;b@2.0.0;c@2.0.0")
}

// Needs are gone through by rising names: what comes first has the outermost
// folder. ab comes behind a and ahead of b, however they stand in the stock.
func TestP6NeedsByRisingNames(t *testing.T) {
	for _, needs := range []string{"a*,ab*,b*", "b*,ab*,a*", "ab*,a*,b*", "b*,a*,ab*"} {
		stock := "x@1.0.0:" + needs + ";a@1.0.0:v=2.0.0;ab@1.0.0:v=1.0.0;b@1.0.0:v=3.0.0;v@1.0.0;v@2.0.0;v@3.0.0"
		checkCalls(t, stock, "+x*", "x*", "a@1.0.0;ab@1.0.0;ab/v@1.0.0;b@1.0.0;b/v@3.0.0;v@2.0.0;x@1.0.0")
		calls := "+" + strings.ReplaceAll(needs, ",", " +") + " !"
		checkCalls(t, stock, calls, "a*,ab*,b*", "a@1.0.0;ab@1.0.0;ab/v@1.0.0;b@1.0.0;b/v@3.0.0;v@2.0.0")
	}
}

func TestP8NeedsAsTheyWereGiven(t *testing.T) {
	stock := "a@1.0.0;ab@1.0.0;abc@1.0.0;b@1.0.0;ba@1.0.0"
	checkCalls(t, stock, "+ba>=1.0.0&<2.0.0|=3.0.0 +b*|* +abc=1.0.0&=1.0.0 +ab^1.0.0|~1.0.0 +a<=99.99.99",
		"a<=99.99.99,ab^1.0.0|~1.0.0,abc=1.0.0&=1.0.0,b*|*,ba>=1.0.0&<2.0.0|=3.0.0", stock)
	checkCalls(t, stock, "+a* +a>=1.0.0", "a>=1.0.0", "a@1.0.0")
	checkCalls(t, stock, "+a>=1.0.0 +a* !", "a*", "a@1.0.0")
}

// Paths of which one is the beginning of another: a is ahead of a/b, and that
// ahead of ab.
func TestP8PathsAreOrderedByteByByte(t *testing.T) {
	stock := "a@1.0.0:b=1.0.0;ab@1.0.0:b=2.0.0;abc@1.0.0;b@1.0.0:c=1.0.0;b@2.0.0;b@3.0.0;c@1.0.0;c@2.0.0"
	checkCalls(t, stock, "+abc* +c=2.0.0 +b=3.0.0 +ab* +a*", "a*,ab*,abc*,b=3.0.0,c=2.0.0",
		"a@1.0.0;a/b@1.0.0;a/c@1.0.0;ab@1.0.0;ab/b@2.0.0;abc@1.0.0;b@3.0.0;c@2.0.0")
	checkCalls(t, nest(12, "g*"), "+g=1.0.0", "g=1.0.0", nested(12))
}

// P2: what other sites are asked, and what a site has refused, changes nothing.
func TestP2SitesStandAlone(t *testing.T) {
	calls := []string{"+b=1.0.0", "+b^1.0.0", "<b@1.4.0", "+c*", "-b", "<b@1.0.0;c@1.0.0;d@1.0.0", "!", "+b^2.0.0", "+a*", "-c", "!", "-b", "<a@1.0.0;a/b@1.0.0", "_", "+b^1.0.0", "<a@1.0.0;a/b@1.4.0;b@1.0.0", "_", "-b", "-a", "_"}
	refused := []string{"+x*", "+b^3.0.0", "+b", "-x", "-", "+d=2.0.0", "<x", "<b@2.0.0", "<c@1.0.0;d@1.0.0"}
	lone := newSite(t, documentsStock)
	busy := newSite(t, documentsStock)
	for i, call := range calls {
		other := newSite(t, documentsStock)
		for _, earlier := range calls[i:] {
			makeCall(other, earlier)
		}
		for _, wrong := range refused {
			if e := makeCall(busy, wrong); e == api.OK {
				t.Errorf("P6, P7, P10: %q is not refused", wrong)
			}
		}
		one, two := makeCall(lone, call), makeCall(busy, call)
		if one != api.OK || two != api.OK {
			t.Errorf("P2: %q is %d and %d", call, one, two)
		}
		checkSite(t, busy, lone.Needs(), lone.Tree())
	}
	checkSite(t, lone, "", "")
}

// P1: whatever the strings are, the calls end, and what is refused changes
// nothing.
func TestP1AnyStringsOfSites(t *testing.T) {
	random := rand.New(rand.NewSource(2))
	letters := []string{"a", "b", "z", "A", "@", "1.0.0", "2.0.0", ":", ",", ";", "*", "=", ">", "^", "|", "&", "/", "a@1.0.0", "b@1.0.0:a*", ";b@2.0.0", "a=1.0.0", "b*", "\x00", "\xff", " "}
	text := func(most int) string {
		all := ""
		for range random.Intn(most) {
			all += letters[random.Intn(len(letters))]
		}
		return all
	}
	made := 0
	for range 100000 {
		site, e := New(text(7))
		if (site == nil) != (e != api.OK) || e != api.OK && e != api.ErrText && e != api.ErrTwice {
			t.Errorf("P5: %v, %d", site, e)
		}
		if site != nil {
			made++
			checkAnyCalls(t, site, text)
		}
	}
	if made < 1000 {
		t.Errorf("%d of the texts were stocks, so that this tests less than it should", made)
	}
}

func checkAnyCalls(t *testing.T, site *Site, text func(most int) string) {
	t.Helper()
	for range 4 {
		needs := site.Needs()
		tree := site.Tree()
		need := text(4)
		if e := site.Add(need); e != api.OK {
			checkSite(t, site, needs, tree)
		} else if !strings.Contains(site.Needs(), need) {
			t.Errorf("P6: behind Add(%q) the needs are %q", need, site.Needs())
		}
		needs = site.Needs()
		tree = site.Tree()
		name := text(2)
		if e := site.Drop(name); e != api.OK {
			checkSite(t, site, needs, tree)
		} else if !strings.Contains(needs, name) {
			t.Errorf("P7: of %q Drop(%q) took something", needs, name)
		}
		needs = site.Needs()
		tree = site.Tree()
		loaded := text(6)
		if e := site.Load(loaded); e == api.OK {
			checkSite(t, site, needs, loaded)
		} else {
			checkSite(t, site, needs, tree)
		}
		path, name := text(4), text(3)
		found, e := site.Look(path, name)
		if (found == "") != (e != api.OK) || !strings.HasSuffix(found, name) && e == api.OK {
			t.Errorf("P9: of %q Look(%q, %q) is %q, %d", site.Tree(), path, name, found, e)
		}
		needs = site.Needs()
		tree = site.Tree()
		if lost := site.Slim(); lost != countOf(tree)-countOf(site.Tree()) || site.Needs() != needs {
			t.Errorf("P11: of %q Slim() took %d, and left %q and %q", tree, lost, site.Tree(), site.Needs())
		}
	}
}
