package trees

import (
	"strings"
	"testing"

	"hoist/api"
	"hoist/needs"
	"hoist/stocks"
	"hoist/versions"
)

func needed(t *testing.T, text string) needs.Need {
	t.Helper()
	n, ok := needs.Parse(text)
	if !ok {
		t.Fatalf("%q is no need", text)
	}
	return n
}

// treeOf tells the tree of packages that are given as path and entry with a
// blank between: "a/b b@1.0.0:c*".
func treeOf(t *testing.T, packages ...string) Tree {
	t.Helper()
	var tree Tree
	for _, text := range packages {
		path, entry, _ := strings.Cut(text, " ")
		stock, e := stocks.Parse(entry)
		if e != api.OK {
			t.Fatalf("%q is no entry", entry)
		}
		name, _, _ := strings.Cut(entry, "@")
		tree = tree.With(Package{Path: path, Entry: stock.Fitting(needed(t, name+"*"))[0]})
	}
	return tree
}

func checkText(t *testing.T, tree Tree, want string) {
	t.Helper()
	if got := tree.Text(); got != want {
		t.Errorf("the tree is %q, want %q", got, want)
	}
}

func TestTextIsByRisingPaths(t *testing.T) {
	want := "a@1.0.0;a/b@2.0.0;a/b/c@1.0.0;ab@1.0.0;ab/a@3.0.0;b@1.0.0"
	checkText(t, treeOf(t, "a a@1.0.0", "a/b b@2.0.0", "a/b/c c@1.0.0", "ab ab@1.0.0", "ab/a a@3.0.0", "b b@1.0.0"), want)
	checkText(t, treeOf(t, "b b@1.0.0", "ab ab@1.0.0", "ab/a a@3.0.0", "a a@1.0.0", "a/b b@2.0.0", "a/b/c c@1.0.0"), want)
	checkText(t, Tree{}, "")
}

func TestWithLeavesTheTreeAsItWas(t *testing.T) {
	tree := treeOf(t, "a a@1.0.0", "c c@1.0.0")
	one := tree.With(Package{Path: "b", Entry: stocks.Entry{Name: "b"}})
	other := tree.With(Package{Path: "d", Entry: stocks.Entry{Name: "d"}})
	checkText(t, tree, "a@1.0.0;c@1.0.0")
	checkText(t, one, "a@1.0.0;b@0.0.0;c@1.0.0")
	checkText(t, other, "a@1.0.0;c@1.0.0;d@0.0.0")
	if tree.Count() != 2 || one.Count() != 3 || (Tree{}).Count() != 0 {
		t.Error("Count is wrong")
	}
}

func TestFind(t *testing.T) {
	tree := treeOf(t, "a a@1.0.0", "a/b b@1.0.0", "a/b/c c@1.0.0", "ab ab@1.0.0", "b b@2.0.0", "b/a a@2.0.0")
	for _, c := range []struct{ path, name, want string }{
		{"", "a", "a"}, {"", "b", "b"}, {"", "c", ""}, {"", "ab", "ab"},
		{"a", "a", "a"}, {"a", "b", "a/b"}, {"a", "c", ""}, {"a", "ab", "ab"},
		{"a/b", "b", "a/b"}, {"a/b", "c", "a/b/c"}, {"a/b", "a", "a"}, {"a/b/c", "c", "a/b/c"}, {"a/b/c", "b", "a/b"}, {"a/b/c", "ab", "ab"},
		{"ab", "b", "b"}, {"ab", "a", "a"}, {"b", "a", "b/a"}, {"b/a", "b", "b"}, {"b/a", "a", "b/a"}, {"b", "c", ""},
	} {
		p, found := tree.Find(c.path, c.name)
		if p.Path != c.want || found != (c.want != "") {
			t.Errorf("%q finds for %q %q, %v, want %q", c.path, c.name, p.Path, found, c.want)
		}
	}
}

func TestMeets(t *testing.T) {
	tree := treeOf(t, "a a@1.0.0", "a/b b@1.0.0", "b b@2.0.0")
	for _, c := range []struct {
		path, need string
		want       bool
	}{
		{"", "b=2.0.0", true}, {"", "b=1.0.0", false}, {"a", "b=1.0.0", true}, {"a", "b=2.0.0", false}, {"a", "c*", false}, {"b", "b>1.0.0", true},
	} {
		if got := tree.Meets(c.path, needed(t, c.need)); got != c.want {
			t.Errorf("%s of %q is met: %v", c.need, c.path, got)
		}
	}
}

func TestHas(t *testing.T) {
	tree := treeOf(t, "a a@1.0.0", "a/b b@1.0.0", "b b@2.0.0")
	one, _ := versions.Parse("1.0.0")
	two, _ := versions.Parse("2.0.0")
	if !tree.Has("a", one) || tree.Has("a", two) || !tree.Has("b", one) || !tree.Has("b", two) || tree.Has("c", one) {
		t.Error("Has is wrong")
	}
	if !tree.HasAt("a/b") || !tree.HasAt("b") || tree.HasAt("") || tree.HasAt("b/a") || tree.HasAt("a/") || tree.HasAt("ab") {
		t.Error("HasAt is wrong")
	}
}

func TestInUse(t *testing.T) {
	tree := treeOf(t, "a a@1.0.0:b*,c*", "a/b b@1.0.0:b*", "b b@2.0.0:d*", "c c@1.0.0:a*", "d d@1.0.0:b*,d*", "e e@1.0.0", "e/f f@1.0.0:e*")
	for _, c := range []struct{ site, want string }{
		{"a*", "a@1.0.0;a/b@1.0.0;c@1.0.0"},
		{"b*", "b@2.0.0;d@1.0.0"},
		{"c*,e*", "a@1.0.0;a/b@1.0.0;c@1.0.0;e@1.0.0"},
		{"a=2.0.0", "a@1.0.0;a/b@1.0.0;c@1.0.0"}, // found, if not met
		{"f*", ""},
		{"x*", ""},
		{"a*,b*,e*", "a@1.0.0;a/b@1.0.0;b@2.0.0;c@1.0.0;d@1.0.0;e@1.0.0"},
	} {
		site, ok := needs.ParseList(c.site)
		if !ok {
			t.Fatalf("%q is no needs", c.site)
		}
		used := tree.InUse(site)
		checkText(t, used, c.want)
		if tree.AllInUse(site) {
			t.Errorf("for %q all are in use", c.site)
		}
		if !used.AllInUse(site) {
			t.Errorf("for %q not all of those in use are in use", c.site)
		}
	}
	checkText(t, tree.InUse(nil), "")
	if tree.AllInUse(nil) || !(Tree{}).AllInUse(nil) {
		t.Error("AllInUse is wrong for a site without needs")
	}
}

func TestIsSound(t *testing.T) {
	tree := treeOf(t, "a a@1.0.0:b=1.0.0", "a/b b@1.0.0:c*", "b b@2.0.0:a*,c*", "c c@1.0.0")
	broken := treeOf(t, "a a@1.0.0:b=2.0.0", "a/b b@1.0.0:c*", "b b@2.0.0:a*,c*", "c c@1.0.0")
	for _, c := range []struct {
		site string
		want bool
	}{{"a*", true}, {"b=2.0.0", true}, {"a*,b*,c*", true}, {"b=1.0.0", false}, {"a*,d*", false}, {"a=2.0.0", false}} {
		site, ok := needs.ParseList(c.site)
		if !ok {
			t.Fatalf("%q is no needs", c.site)
		}
		if got := tree.IsSound(site); got != c.want {
			t.Errorf("for %q the tree is sound: %v", c.site, got)
		}
		if broken.IsSound(site) || (Tree{}).IsSound(site) {
			t.Errorf("for %q what is not sound is sound", c.site)
		}
	}
	if !tree.IsSound(nil) || broken.IsSound(nil) || !(Tree{}).IsSound(nil) {
		t.Error("IsSound is wrong for a site without needs")
	}
}
