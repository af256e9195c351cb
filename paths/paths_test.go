package paths

import "testing"

func TestInFolderAndName(t *testing.T) {
	for _, c := range []struct{ folder, name, path string }{
		{Outermost, "a", "a"}, {Outermost, "abc", "abc"}, {"a", "b", "a/b"}, {"a/b", "c", "a/b/c"}, {"abc/a", "ab", "abc/a/ab"}, {"a", "a", "a/a"},
	} {
		if got := In(c.folder, c.name); got != c.path {
			t.Errorf("In(%q, %q) = %q", c.folder, c.name, got)
		}
		if got := Folder(c.path); got != c.folder {
			t.Errorf("Folder(%q) = %q", c.path, got)
		}
		if got := Name(c.path); got != c.name {
			t.Errorf("Name(%q) = %q", c.path, got)
		}
		if !IsPath(c.path) {
			t.Errorf("%q is no path", c.path)
		}
	}
	if got := Folder(Outermost); got != Outermost {
		t.Errorf("the folder of the outermost is %q", got)
	}
}

func TestIsUnder(t *testing.T) {
	for _, c := range []struct {
		path, other string
		want        bool
	}{
		{"a/b", "a", true}, {"a/b/c", "a", true}, {"a/b/c", "a/b", true}, {"a/a", "a", true}, {"a/a/a", "a/a", true}, {"ab/a", "ab", true},
		{"a", "a", false}, {"a/b", "a/b", false}, {"a", "a/b", false}, {"ab", "a", false}, {"ab/c", "a", false}, {"a/bc", "a/b", false}, {"a/bc/d", "a/b", false},
		{"b/a", "a", false}, {"b/a/c", "a", false}, {"b", "a", false}, {"a", "ab", false}, {"a/b/c", "b", false}, {"a/c", "a/b", false},
	} {
		if got := IsUnder(c.path, c.other); got != c.want {
			t.Errorf("%q is under %q: %v", c.path, c.other, got)
		}
	}
}

func TestIsPath(t *testing.T) {
	for _, text := range []string{"", "/", "//", "/a", "a/", "a//b", "A", "a/B", "abcd", "abcd/a", "a/abcd", "a b", "a@1.0.0", "a.b", ".", "a/b/", "/a/b", "a/\x00", "1", "a/1"} {
		if IsPath(text) {
			t.Errorf("%q is a path", text)
		}
	}
}
