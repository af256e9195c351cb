package trees

import (
	"testing"

	"hoist/needs"
)

func TestWithout(t *testing.T) {
	tree := treeOf(t, "a a@1.0.0", "a/b b@1.0.0", "a/b/c c@1.0.0", "a/bc bc@1.0.0", "ab ab@1.0.0", "b b@1.0.0", "b/a a@1.0.0")
	for _, c := range []struct{ path, want string }{
		{"a", "ab@1.0.0;b@1.0.0;b/a@1.0.0"},
		{"a/b", "a@1.0.0;a/bc@1.0.0;ab@1.0.0;b@1.0.0;b/a@1.0.0"},
		{"a/b/c", "a@1.0.0;a/b@1.0.0;a/bc@1.0.0;ab@1.0.0;b@1.0.0;b/a@1.0.0"},
		{"ab", "a@1.0.0;a/b@1.0.0;a/b/c@1.0.0;a/bc@1.0.0;b@1.0.0;b/a@1.0.0"},
		{"b", "a@1.0.0;a/b@1.0.0;a/b/c@1.0.0;a/bc@1.0.0;ab@1.0.0"},
	} {
		checkText(t, tree.without(c.path), c.want)
	}
	checkText(t, tree, "a@1.0.0;a/b@1.0.0;a/b/c@1.0.0;a/bc@1.0.0;ab@1.0.0;b@1.0.0;b/a@1.0.0")
}

func TestSlim(t *testing.T) {
	// Either b=1.0.0 can be spared, but not both.
	either := treeOf(t, "b b@2.0.0", "x x@1.0.0:b*,y*", "x/b b@1.0.0", "x/y y@1.0.0:b=1.0.0", "x/y/b b@1.0.0")
	// b goes with what it alone needs, c and c/d.
	used := treeOf(t, "a a@1.0.0:b*", "a/b b@1.0.0:c*", "b b@2.0.0", "c c@1.0.0:d*", "c/d d@1.0.0")
	for _, c := range []struct {
		tree       Tree
		site, want string
	}{
		{either, "b=2.0.0,x*", "b@2.0.0;x@1.0.0;x/b@1.0.0;x/y@1.0.0"},
		{used, "a*,b=2.0.0", "a@1.0.0;b@2.0.0"},
		{used, "a*,b=2.0.0,c*", "a@1.0.0;b@2.0.0;c@1.0.0;c/d@1.0.0"},
	} {
		site, ok := needs.ParseList(c.site)
		if !ok {
			t.Fatalf("%q is no needs", c.site)
		}
		whole := c.tree.Text()
		slim := c.tree.Slim(site)
		checkText(t, slim, c.want)
		checkText(t, slim.Slim(site), c.want)
		checkText(t, c.tree, whole)
	}
	checkText(t, Tree{}.Slim(nil), "")
}
