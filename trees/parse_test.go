package trees

import (
	"strings"
	"testing"

	"hoist/api"
	"hoist/stocks"
)

func checkParse(t *testing.T, stock string, text string, want api.Errno) {
	t.Helper()
	s, e := stocks.Parse(stock)
	if e != api.OK {
		t.Fatalf("%q is no stock: %d", stock, e)
	}
	wantText := text
	if want != api.OK {
		wantText = ""
	}
	tree, e := Parse(text, s)
	if e != want || tree.Text() != wantText {
		t.Errorf("Parse(%.100q) = %q, %d, want %d", text, tree.Text(), e, want)
	}
}

// Trees of the stock: they need not be sound.
func TestParse(t *testing.T) {
	stock := "a@1.0.0:x*;ab@1.0.0;b@1.0.0;b@2.0.0"
	for _, text := range []string{"", "a@1.0.0", "a@1.0.0;a/b@2.0.0", "a@1.0.0;a/a@1.0.0;a/a/a@1.0.0", "a@1.0.0;a/ab@1.0.0;a/b@1.0.0;ab@1.0.0;ab/a@1.0.0;ab/a/b@2.0.0;b@1.0.0"} {
		checkParse(t, stock, text, api.OK)
	}
	for _, text := range []string{
		";", "a", "a@1", "a@1.0.0;", ";a@1.0.0", "a@1.0.0;;b@1.0.0", "x@1.0.0", "a@2.0.0", "a@01.0.0", "A@1.0.0", "a@1.0.0:x*",
		"b@1.0.0;a@1.0.0", "a@1.0.0;a@1.0.0", "b@1.0.0;b@2.0.0", "b@2.0.0;b@1.0.0", "a@1.0.0;ab@1.0.0;a/b@1.0.0", "a/b@1.0.0;a@1.0.0", "b@1.0.0;ab@1.0.0",
		"a/b@1.0.0", "x/b@1.0.0", "a@1.0.0;b/b@1.0.0", "a@1.0.0;a/b/b@1.0.0", "a@1.0.0;ab/b@1.0.0", "ab@1.0.0;ab/a/b@1.0.0",
		"/a@1.0.0", "//a@1.0.0", "a@1.0.0;a/@1.0.0", "a@1.0.0;a//b@1.0.0", "@1.0.0",
	} {
		checkParse(t, stock, text, api.ErrTree)
	}
	checkParse(t, "", "", api.OK)
	checkParse(t, "", "a@1.0.0", api.ErrTree)
}

func TestParseAsManyAsThereMayBe(t *testing.T) {
	path := "a"
	text := "a@1.0.0"
	for count := 2; count <= api.MaxPackages+3; count++ {
		path += "/a"
		text += ";" + path + "@1.0.0"
		want := api.OK
		if count > api.MaxPackages {
			want = api.ErrTree
		}
		checkParse(t, "a@1.0.0", text, want)
	}
	checkParse(t, "a@1.0.0", strings.Repeat("a", api.MaxTree), api.ErrTree)
	checkParse(t, "a@1.0.0", strings.Repeat("a", api.MaxTree+1), api.ErrLong)
}
