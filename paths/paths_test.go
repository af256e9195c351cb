package paths

import "testing"

func TestInFolderAndName(t *testing.T) {
	for _, c := range []struct{ folder, name, path string }{
		{Outermost, "a", "a"}, {Outermost, "abc", "abc"}, {"a", "b", "a/b"}, {"a/b", "c", "a/b/c"}, {"abc/a", "ab", "abc/a/ab"}, {"a", "a", "a/a"},
	} {
		if got := In(c.folder, c.name); got != c.path {
			t.Errorf("In(%q, %q) = %q", c.folder, c.name, got)
		}
		if got := Folder(c.path); got != c.folder {
			t.Errorf("Folder(%q) = %q", c.path, got)
		}
		if got := Name(c.path); got != c.name {
			t.Errorf("Name(%q) = %q", c.path, got)
		}
		if !IsPath(c.path) {
			t.Errorf("%q is no path", c.path)
		}
	}
	if got := Folder(Outermost); got != Outermost {
		t.Errorf("the folder of the outermost is %q", got)
	}
}

func TestIsPath(t *testing.T) {
	for _, text := range []string{"", "/", "//", "/a", "a/", "a//b", "A", "a/B", "abcd", "abcd/a", "a/abcd", "a b", "a@1.0.0", "a.b", ".", "a/b/", "/a/b", "a/\x00", "1", "a/1"} {
		if IsPath(text) {
			t.Errorf("%q is a path", text)
		}
	}
}
