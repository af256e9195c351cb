package hoist

import (
	"fmt"
	"strings"
	"testing"

	"hoist/api"
)

// countOf tells how many packages a tree as text has.
func countOf(tree string) int { return strings.Count(tree, "@") }

// checkSlim slims the site's tree, and looks at the site behind it.
func checkSlim(t *testing.T, site *Site, want int, left string) {
	t.Helper()
	needs := site.Needs()
	tree := site.Tree()
	if got := site.Slim(); got != want {
		t.Errorf("P11: of %q Slim() took %d, want %d", tree, got, want)
	}
	checkSite(t, site, needs, left)
	if lost := countOf(tree) - countOf(left); lost != want {
		t.Errorf("of %q to %q %d packages are lost, not %d", tree, left, lost, want)
	}
	if got := site.Slim(); got != 0 {
		t.Errorf("P11: right behind a Slim() of %q another took %d", tree, got)
	}
	checkSite(t, site, needs, left)
	twin := *site // so that what follows goes by the slimmed tree, not by a loaded one
	if e := twin.Load(left); e != api.OK {
		t.Errorf("P11: behind Slim() the tree is not sound, or has packages that are not in use: %d", e)
	}
}

// checkLoadedSlim does so with a tree that is loaded into a site with needs.
func checkLoadedSlim(t *testing.T, stock string, needs string, loaded string, want int, left string) *Site {
	t.Helper()
	site := siteWith(t, stock, needs)
	if e := site.Load(loaded); e != api.OK {
		t.Errorf("P10: with the needs %q Load(%.200q) is %d", needs, loaded, e)
	}
	checkSlim(t, site, want, left)
	return site
}

// checkNotSlim does so with trees of which nothing can be spared.
func checkNotSlim(t *testing.T, stock string, needs string, trees ...string) {
	t.Helper()
	for _, tree := range trees {
		checkLoadedSlim(t, stock, needs, tree, 0, tree)
	}
}

func TestDocumentsExamplesOfSlim(t *testing.T) {
	site := siteWith(t, documentsStock, "b^2.0.0 c*")
	checkSlim(t, site, 0, "a@1.0.0;a/b@1.4.0;b@2.0.0;c@1.0.0;c/b@1.4.0;d@1.0.0;d/b@1.0.0")
	checkLoadedSlim(t, documentsStock, "a* b^1.0.0", "a@1.0.0;a/b@1.0.0;b@1.4.0", 1, "a@1.0.0;b@1.4.0")
}

func TestP11NoTree(t *testing.T) {
	for _, stock := range []string{"", "a@1.0.0", documentsStock} {
		site := newSite(t, stock)
		checkSlim(t, site, 0, "")
		checkLook(t, site, "", "a", "", api.ErrNone)
	}
	site := checkCalls(t, documentsStock, "+a* +c* -a -c", "", "")
	checkSlim(t, site, 0, "")
	site = checkCalls(t, documentsStock, "+a* -a <", "", "")
	checkSlim(t, site, 0, "")
	if e := site.Add("a*"); e != api.OK {
		t.Errorf("P6: Add is %d", e)
	}
	checkSite(t, site, "a*", "a@1.0.0;b@1.4.0")
}

func TestP11NothingCanBeSpared(t *testing.T) {
	checkNotSlim(t, documentsStock, "b*", "b@1.0.0", "b@1.4.0", "a@1.0.0;a/b@1.0.0;b@2.0.0", "b@2.0.0;b/a@1.0.0;b/b@1.0.0", "b@2.0.0;b/a@1.0.0;b/a/b@1.4.0")
	checkNotSlim(t, documentsStock, "c*", "b@1.0.0;c@1.0.0;d@1.0.0", "c@1.0.0;c/b@1.0.0;c/d@1.0.0", "b@1.4.0;c@1.0.0;d@1.0.0;d/b@1.0.0", "c@1.0.0;c/b@1.4.0;c/d@1.0.0;c/d/b@1.0.0")
	checkNotSlim(t, documentsStock, "a* b^2.0.0", "a@1.0.0;a/b@1.0.0;b@2.0.0", "a@1.0.0;a/b@1.4.0;b@2.0.0")
	// Packages that find themselves, and that need each other.
	checkNotSlim(t, "a@1.0.0:a*;a@2.0.0:a=1.0.0", "a*", "a@1.0.0", "a@2.0.0;a/a@1.0.0")
	checkNotSlim(t, "a@1.0.0:b*;b@1.0.0:a*", "a*", "a@1.0.0;b@1.0.0", "a@1.0.0;a/b@1.0.0")
	checkNotSlim(t, "a@1.0.0;ab@1.0.0;b@1.0.0", "a* b* ab*", "a@1.0.0;ab@1.0.0;b@1.0.0")
	// Behind x/y/b there is x/b, which does not fit, ahead of b, which does.
	checkNotSlim(t, "b@1.0.0;b@2.0.0;x@1.0.0:b=2.0.0,y*;y@1.0.0:b=1.0.0", "b* x*", "b@1.0.0;x@1.0.0;x/b@2.0.0;x/y@1.0.0;x/y/b@1.0.0")
}

// The whole tree must be sound, with those that would no longer be in use: x
// could do without x/b, but x/c, which x/b alone needs, could not.
func TestP11WhatIsNoLongerInUseHasNeedsToo(t *testing.T) {
	stock := "b@1.0.0:c*;b@2.0.0;c@1.0.0:b=1.0.0;x@1.0.0:b*"
	checkNotSlim(t, stock, "x* b=2.0.0", "b@2.0.0;x@1.0.0;x/b@1.0.0;x/c@1.0.0")
	checkLoadedSlim(t, stock, "x* b=2.0.0", "b@2.0.0;x@1.0.0;x/b@1.0.0;x/b/c@1.0.0", 2, "b@2.0.0;x@1.0.0")
	stock = "b@1.0.0:c=1.0.0;b@2.0.0:c=2.0.0;c@1.0.0:b=1.0.0;c@2.0.0:b=2.0.0;x@1.0.0:b*"
	checkNotSlim(t, stock, "x* b=2.0.0", "b@2.0.0;c@2.0.0;x@1.0.0;x/b@1.0.0;x/c@1.0.0")
	checkLoadedSlim(t, stock, "x* b=2.0.0", "b@2.0.0;c@2.0.0;x@1.0.0;x/b@1.0.0;x/b/c@1.0.0", 2, "b@2.0.0;c@2.0.0;x@1.0.0")
}

func TestP11WhatFitsFartherOut(t *testing.T) {
	stock := "a@1.0.0:b<3.0.0;b@1.0.0;b@2.0.0;b@3.0.0"
	for _, deep := range []string{"1.0.0", "2.0.0"} {
		for _, out := range []string{"1.0.0", "2.0.0"} {
			checkLoadedSlim(t, stock, "a* b*", "a@1.0.0;a/b@"+deep+";b@"+out, 1, "a@1.0.0;b@"+out)
		}
		checkNotSlim(t, stock, "a* b*", "a@1.0.0;a/b@"+deep+";b@3.0.0")
	}
	// Not in the next folder, but in that one's folder.
	stock = "a@1.0.0:c*;b@1.0.0;c@1.0.0:d*;d@1.0.0:b*"
	checkLoadedSlim(t, stock, "a* b*", "a@1.0.0;a/c@1.0.0;a/c/d@1.0.0;a/c/d/b@1.0.0;b@1.0.0", 1, "a@1.0.0;a/c@1.0.0;a/c/d@1.0.0;b@1.0.0")
	checkLoadedSlim(t, stock, "a* b*", "a@1.0.0;a/c@1.0.0;a/c/b@1.0.0;a/c/d@1.0.0;b@1.0.0", 1, "a@1.0.0;a/c@1.0.0;a/c/d@1.0.0;b@1.0.0")
	checkLoadedSlim(t, stock, "a* d*", "a@1.0.0;a/c@1.0.0;a/c/d@1.0.0;a/c/d/b@1.0.0;d@1.0.0;d/b@1.0.0", 2, "a@1.0.0;a/c@1.0.0;d@1.0.0;d/b@1.0.0")
	checkLoadedSlim(t, "a@1.0.0:b*;b@1.0.0:a*", "a* b*", "a@1.0.0;a/b@1.0.0;a/b/a@1.0.0;b@1.0.0;b/a@1.0.0;b/a/b@1.0.0", 4, "a@1.0.0;b@1.0.0")
}

func TestP11WithAllThatLieUnderIt(t *testing.T) {
	// x/a/b needs x/a; it has no say, as it goes with it.
	stock := "a@1.0.0:b*;a@2.0.0;b@1.0.0:a=1.0.0,c*;c@1.0.0:b=1.0.0;x@1.0.0:a*"
	checkLoadedSlim(t, stock, "a=2.0.0 x*", "a@2.0.0;x@1.0.0;x/a@1.0.0;x/a/b@1.0.0;x/a/b/c@1.0.0", 3, "a@2.0.0;x@1.0.0")
	checkLoadedSlim(t, stock, "a=2.0.0 x*", "a@2.0.0;x@1.0.0;x/a@1.0.0;x/a/b@1.0.0;x/a/c@1.0.0", 3, "a@2.0.0;x@1.0.0")
	checkNotSlim(t, stock, "a=2.0.0 x*", "a@2.0.0;x@1.0.0;x/a@1.0.0;x/b@1.0.0;x/c@1.0.0")
	// The others in its folder stay.
	stock = "a@1.0.0:b*;a@2.0.0;b@1.0.0;c@1.0.0:b*;x@1.0.0:a*,c*"
	checkLoadedSlim(t, stock, "a=2.0.0 x*", "a@2.0.0;x@1.0.0;x/a@1.0.0;x/a/b@1.0.0;x/c@1.0.0;x/c/b@1.0.0", 2, "a@2.0.0;x@1.0.0;x/c@1.0.0;x/c/b@1.0.0")
}

// x/aa and x/ab are not under x/a, nor is x/b under a/b.
func TestP11PathsThatAreTheBeginningOfOthers(t *testing.T) {
	stock := "a@1.0.0:b*;a@2.0.0;aa@1.0.0;ab@1.0.0:b*;ab@2.0.0;b@1.0.0;x@1.0.0:a*,aa*,ab*"
	checkLoadedSlim(t, stock, "a=2.0.0 x*",
		"a@2.0.0;x@1.0.0;x/a@1.0.0;x/a/b@1.0.0;x/aa@1.0.0;x/ab@1.0.0;x/ab/b@1.0.0", 2,
		"a@2.0.0;x@1.0.0;x/aa@1.0.0;x/ab@1.0.0;x/ab/b@1.0.0")
	checkLoadedSlim(t, stock, "ab=2.0.0 x*",
		"ab@2.0.0;x@1.0.0;x/a@1.0.0;x/a/b@1.0.0;x/aa@1.0.0;x/ab@1.0.0;x/ab/b@1.0.0", 2,
		"ab@2.0.0;x@1.0.0;x/a@1.0.0;x/a/b@1.0.0;x/aa@1.0.0")
	checkLoadedSlim(t, freeStock, "a*", "a@1.0.0;a/a@1.0.0;a/ab@1.0.0;a/ab/a@1.0.0;ab@1.0.0;b@1.0.0", 3, "a@1.0.0;ab@1.0.0;b@1.0.0")
	stock = "a@1.0.0:b*;b@1.0.0:a*;b@2.0.0;x@1.0.0:b=1.0.0"
	checkLoadedSlim(t, stock, "a* b=2.0.0 x*", "a@1.0.0;a/b@1.0.0;b@2.0.0;x@1.0.0;x/b@1.0.0", 1, "a@1.0.0;b@2.0.0;x@1.0.0;x/b@1.0.0")
}

// Either of two b can be spared, but not both: x/b, or the one in the folder of
// the package that needs b=1.0.0.
func TestP11LastPathOfSeveral(t *testing.T) {
	for _, c := range []struct{ name, spared string }{{"a", "x/b"}, {"aa", "x/b"}, {"azz", "x/b"}, {"ba", "x/ba/b"}, {"c", "x/c/b"}, {"bbb", "x/bbb/b"}} {
		stock := fmt.Sprintf("b@1.0.0;b@2.0.0;x@1.0.0:b*,%s*;%s@1.0.0:b=1.0.0", c.name, c.name)
		whole := fmt.Sprintf("b@2.0.0;x@1.0.0;x/b@1.0.0;x/%s@1.0.0;x/%s/b@1.0.0", c.name, c.name)
		if c.name < "b" {
			whole = fmt.Sprintf("b@2.0.0;x@1.0.0;x/%s@1.0.0;x/%s/b@1.0.0;x/b@1.0.0", c.name, c.name)
		}
		checkLoadedSlim(t, stock, "x* b=2.0.0", whole, 1, strings.Replace(whole, ";"+c.spared+"@1.0.0", "", 1))
	}
}

// With the c or d of its own gone, a package needs no b any longer. If that one
// goes first, b is not in use, and the other one's b cannot be spared.
func TestP11LastPathAndWhatIsInUse(t *testing.T) {
	stock := "a@1.0.0:c*;ab@1.0.0:b*;b@1.0.0;c@1.0.0:b*;c@2.0.0"
	checkLoadedSlim(t, stock, "a* ab* c=2.0.0", "a@1.0.0;a/c@1.0.0;ab@1.0.0;ab/b@1.0.0;b@1.0.0;c@2.0.0", 2, "a@1.0.0;ab@1.0.0;b@1.0.0;c@2.0.0")
	stock = "a@1.0.0:b*;ab@1.0.0:c*;b@1.0.0;c@1.0.0:b*;c@2.0.0"
	checkLoadedSlim(t, stock, "a* ab* c=2.0.0", "a@1.0.0;a/b@1.0.0;ab@1.0.0;ab/c@1.0.0;b@1.0.0;c@2.0.0", 2, "a@1.0.0;a/b@1.0.0;ab@1.0.0;c@2.0.0")
	stock = "b@1.0.0;c@1.0.0:b*;d@1.0.0:b*;d@2.0.0;z@1.0.0:d*"
	checkLoadedSlim(t, stock, "c* d=2.0.0 z*", "b@1.0.0;c@1.0.0;c/b@1.0.0;d@2.0.0;z@1.0.0;z/d@1.0.0", 2, "c@1.0.0;c/b@1.0.0;d@2.0.0;z@1.0.0")
}

func TestP11OnceAnotherHasGone(t *testing.T) {
	stock := "a@1.0.0:b=1.0.0;a@2.0.0;b@1.0.0;b@2.0.0;x@1.0.0:a*,b*"
	checkLoadedSlim(t, stock, "x* a=2.0.0 b=2.0.0", "a@2.0.0;b@2.0.0;x@1.0.0;x/a@1.0.0;x/b@1.0.0", 2, "a@2.0.0;b@2.0.0;x@1.0.0")
	// The same with the one that goes first behind the other.
	stock = "a@1.0.0;a@2.0.0;b@1.0.0:a=1.0.0;b@2.0.0;x@1.0.0:a*,b*"
	checkLoadedSlim(t, stock, "x* a=2.0.0 b=2.0.0", "a@2.0.0;b@2.0.0;x@1.0.0;x/a@1.0.0;x/b@1.0.0", 2, "a@2.0.0;b@2.0.0;x@1.0.0")
	// Each once the one ahead of it has gone.
	stock = "a@1.0.0:b=1.0.0;b@1.0.0:c=1.0.0;c@1.0.0:d=1.0.0;d@1.0.0:e=1.0.0;e@1.0.0;a@2.0.0;b@2.0.0;c@2.0.0;d@2.0.0;e@2.0.0;x@1.0.0:a*,b*,c*,d*,e*"
	outer := "a@2.0.0;b@2.0.0;c@2.0.0;d@2.0.0;e@2.0.0;x@1.0.0"
	checkLoadedSlim(t, stock, "x* a=2.0.0 b=2.0.0 c=2.0.0 d=2.0.0 e=2.0.0", outer+";x/a@1.0.0;x/b@1.0.0;x/c@1.0.0;x/d@1.0.0;x/e@1.0.0", 5, outer)
}

func TestP11WhatIsNoLongerInUseGoes(t *testing.T) {
	// One, one behind another, some that need each other, one with another under it.
	for _, c := range []struct{ rest, gone string }{
		{"c@1.0.0", "c@1.0.0"},
		{"c@1.0.0:d*;d@1.0.0:e*;e@1.0.0", "c@1.0.0;d@1.0.0;e@1.0.0"},
		{"c@1.0.0:d*;d@1.0.0:e*;e@1.0.0:c*", "c@1.0.0;d@1.0.0;e@1.0.0"},
		{"c@1.0.0:d*;d@1.0.0:e*;e@1.0.0", "c@1.0.0;c/d@1.0.0;c/e@1.0.0"},
		{"c@1.0.0:c*", "c@1.0.0;c/c@1.0.0;c/c/c@1.0.0"},
	} {
		stock := "a@1.0.0:b*;b@1.0.0:c*;b@2.0.0;" + c.rest
		checkLoadedSlim(t, stock, "a* b=2.0.0", "a@1.0.0;a/b@1.0.0;b@2.0.0;"+c.gone, 1+countOf(c.gone), "a@1.0.0;b@2.0.0")
	}
	// What another still needs stays.
	stock := "a@1.0.0:b*;b@1.0.0:c*,d*;b@2.0.0:d*;c@1.0.0:d*;d@1.0.0"
	checkLoadedSlim(t, stock, "a* b=2.0.0", "a@1.0.0;a/b@1.0.0;b@2.0.0;c@1.0.0;d@1.0.0", 2, "a@1.0.0;b@2.0.0;d@1.0.0")
}

// x/c and x/e, which need each other, go as soon as x/b has gone, so that x/d,
// which x/c needs, can be spared then.
func TestP11WhatIsNoLongerInUseGoesEachTime(t *testing.T) {
	stock := "b@1.0.0:c*;b@2.0.0;c@1.0.0:d=1.0.0,e*;d@1.0.0:f*;d@2.0.0;e@1.0.0:c*;f@1.0.0:g=1.0.0,h*;h@1.0.0:f*;g@1.0.0;g@2.0.0;x@1.0.0:b*,d*,g*"
	outer := "b@2.0.0;d@2.0.0;g@2.0.0;x@1.0.0"
	checkLoadedSlim(t, stock, "x* b=2.0.0 d=2.0.0 g=2.0.0", outer+";x/b@1.0.0;x/c@1.0.0;x/d@1.0.0;x/e@1.0.0;x/f@1.0.0;x/g@1.0.0;x/h@1.0.0", 7, outer)
}

func TestP11MaxPackages(t *testing.T) {
	checkLoadedSlim(t, "a@1.0.0:a*", "a*", nestedAlike("a", "1.0.0", api.MaxPackages), 39, "a@1.0.0")
	checkLoadedSlim(t, "a@1.0.0:a*,b*;b@1.0.0", "a*", nestedAlike("a", "1.0.0", 39)+";b@1.0.0", 38, "a@1.0.0;b@1.0.0")
	checkLoadedSlim(t, "abc@99.99.99:abc*", "abc*", nestedAlike("abc", "99.99.99", api.MaxPackages), 39, "abc@99.99.99")
	// Nothing can be spared of the first, of the second the deepest package.
	checkNotSlim(t, nest(api.MaxPackages, "g=40.0.0"), "g=1.0.0", nested(api.MaxPackages))
	deepest := "g" + strings.Repeat("/g", 37)
	checkLoadedSlim(t, nest(38, "i*")+";i@1.0.0", "g=1.0.0 i*", nested(38)+";"+deepest+"/i@1.0.0;i@1.0.0", 1, nested(38)+";i@1.0.0")
	// Here the 38 in h go at once.
	inH := ";h/" + strings.ReplaceAll(nested(38), ";", ";h/")
	checkLoadedSlim(t, nest(38, "g*")+";g@50.0.0;h@1.0.0:g*", "g=50.0.0 h*", "g@50.0.0;h@1.0.0"+inH, 38, "g@50.0.0;h@1.0.0")
	// And here 37 as they are no longer in use.
	checkLoadedSlim(t, nest(37, "g*")+";h@1.0.0:i*;i@1.0.0:g=1.0.0;i@2.0.0", "h* i=2.0.0", nested(37)+";h@1.0.0;h/i@1.0.0;i@2.0.0", 38, "h@1.0.0;i@2.0.0")
}

// w is laid a b of its own, as b@3.0.0 would not do for x; then y has one laid
// that would do for all in x.
func TestP11TreesThatWereBuilt(t *testing.T) {
	stock := "b@1.0.0;b@2.0.0;b@3.0.0;w@1.0.0:b=1.0.0|=3.0.0;w@2.0.0;x@1.0.0:b<=2.0.0,w=1.0.0,y=1.0.0;y@1.0.0:b=1.0.0;y@2.0.0"
	built := "b@2.0.0;w@2.0.0;x@1.0.0;x/b@1.0.0;x/w@1.0.0;x/w/b@3.0.0;x/y@1.0.0;y@2.0.0"
	slim := "b@2.0.0;w@2.0.0;x@1.0.0;x/b@1.0.0;x/w@1.0.0;x/y@1.0.0;y@2.0.0"
	needs := "b=2.0.0,w=2.0.0,x*,y=2.0.0"
	calls := "+b=2.0.0 +w=2.0.0 +y=2.0.0 +x*"
	checkSlim(t, checkCalls(t, stock, calls, needs, built), 1, slim)
	checkSlim(t, checkCalls(t, stock, calls+" !", needs, built), 1, slim)
	// 3.0.0 is no longer favoured, so w is laid the same b as y.
	checkCalls(t, stock, calls+" _ +x=1.0.0", "b=2.0.0,w=2.0.0,x=1.0.0,y=2.0.0", slim)
	checkCalls(t, stock, calls+" _ !", needs, built)
	checkSlim(t, checkCalls(t, stock, calls+" _ ! _ !", needs, built), 1, slim)
}

func TestP11LaterCallsGoByTheSlimmedTree(t *testing.T) {
	loaded := "+a* +b^1.0.0 <a@1.0.0;a/b@1.4.0;b@1.0.0 "
	for _, c := range []struct{ calls, needs, tree string }{
		{"_", "a*,b^1.0.0", "a@1.0.0;b@1.0.0"},
		{"-b", "a*", "a@1.0.0;b@1.4.0"},
		{"_ -b", "a*", "a@1.0.0;b@1.0.0"}, // 1.4.0 has gone, and is not favoured
		{"+b*", "a*,b*", "a@1.0.0;b@1.4.0"},
		{"_ +b*", "a*,b*", "a@1.0.0;b@1.0.0"},
		{"_ +a^1.0.0", "a^1.0.0,b^1.0.0", "a@1.0.0;b@1.0.0"},
		{"_ +b>1.0.0", "a*,b>1.0.0", "a@1.0.0;a/b@1.0.0;b@2.0.0"},
		{"_ -a", "b^1.0.0", "b@1.0.0"},
		{"_ !", "a*,b^1.0.0", "a@1.0.0;b@1.4.0"},
		{"_ -a -b", "", ""},
		{"_ <a@1.0.0;a/b@1.4.0;b@1.0.0", "a*,b^1.0.0", "a@1.0.0;a/b@1.4.0;b@1.0.0"},
		{"_ <a@1.0.0;a/b@1.4.0;b@1.0.0 _", "a*,b^1.0.0", "a@1.0.0;b@1.0.0"},
		{"_ <a@1.0.0;b@1.4.0 -b", "a*", "a@1.0.0;b@1.4.0"},
	} {
		checkCalls(t, documentsStock, loaded+c.calls, c.needs, c.tree)
	}
	// Nor is that favoured which was no longer in use: c@1.0.0.
	stock := "a@1.0.0:b*;b@1.0.0:c*;b@2.0.0;c@1.0.0;c@2.0.0"
	loaded = "+a* +b=2.0.0 <a@1.0.0;a/b@1.0.0;b@2.0.0;c@1.0.0 "
	checkCalls(t, stock, loaded+"+c*", "a*,b=2.0.0,c*", "a@1.0.0;b@2.0.0;c@1.0.0")
	checkCalls(t, stock, loaded+"_ +c*", "a*,b=2.0.0,c*", "a@1.0.0;b@2.0.0;c@2.0.0")
}

func TestP11LookBehindIt(t *testing.T) {
	site := checkCalls(t, documentsStock, "+a* +b^1.0.0 <a@1.0.0;a/b@1.4.0;b@1.0.0", "a*,b^1.0.0", "a@1.0.0;a/b@1.4.0;b@1.0.0")
	checkLook(t, site, "a", "b", "a/b", api.OK)
	checkLook(t, site, "a/b", "a", "a", api.OK)
	checkSlim(t, site, 1, "a@1.0.0;b@1.0.0")
	checkLook(t, site, "a", "b", "b", api.OK)
	checkLook(t, site, "a/b", "a", "", api.ErrPath)
	checkLook(t, site, "", "b", "b", api.OK)
	checkLook(t, site, "b", "c", "", api.ErrNone)
}

// What is refused behind it leaves the slimmed tree and its favoured versions.
func TestP11RefusedCallsBehindIt(t *testing.T) {
	site := checkLoadedSlim(t, documentsStock, "a* b^1.0.0", "a@1.0.0;a/b@1.4.0;b@1.0.0", 1, "a@1.0.0;b@1.0.0")
	checkRefused(t, site, "+x*", api.ErrNoMatch)
	checkRefused(t, site, "+b", api.ErrText)
	checkRefused(t, site, "-c", api.ErrNone)
	checkRefused(t, site, "<a@1.0.0", api.ErrTree)
	checkRefused(t, site, "<a@1.0.0;a/b@1.4.0", api.ErrTree)
	checkSlim(t, site, 0, "a@1.0.0;b@1.0.0")
	if e := site.Drop("b"); e != api.OK {
		t.Errorf("P7: Drop is %d", e)
	}
	checkSite(t, site, "a*", "a@1.0.0;b@1.0.0")
}

func TestP11NeedsStay(t *testing.T) {
	stock := "a@1.0.0:b*;b@1.0.0;c@1.0.0;d@1.0.0;e@1.0.0;f@1.0.0;g@1.0.0"
	needs := "a>=1.0.0&<2.0.0,b*|*,c=1.0.0&=1.0.0,d^1.0.0|~1.0.0,e<=99.99.99,f*"
	others := "b@1.0.0;c@1.0.0;d@1.0.0;e@1.0.0;f@1.0.0"
	site := checkLoadedSlim(t, stock, strings.ReplaceAll(needs, ",", " "), "a@1.0.0;a/b@1.0.0;"+others, 1, "a@1.0.0;"+others)
	checkSite(t, site, needs, "a@1.0.0;"+others)
	checkRefused(t, site, "+g*", api.ErrMany)
}

// Slim of one site leaves another as it is, though both have loaded one text.
func TestP2SlimOfAnotherSite(t *testing.T) {
	tree := "a@1.0.0;a/b@1.4.0;b@1.0.0"
	one := checkCalls(t, documentsStock, "+a* +b^1.0.0 <"+tree, "a*,b^1.0.0", tree)
	other := checkCalls(t, documentsStock, "+a* +b^1.0.0 <"+tree, "a*,b^1.0.0", tree)
	checkSlim(t, one, 1, "a@1.0.0;b@1.0.0")
	checkSite(t, other, "a*,b^1.0.0", tree)
	checkSlim(t, other, 1, "a@1.0.0;b@1.0.0")
}
