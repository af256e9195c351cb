package paths

import "testing"

func TestInAndFolder(t *testing.T) {
	for _, c := range []struct{ folder, name, path string }{
		{Outermost, "a", "a"}, {Outermost, "abc", "abc"}, {"a", "b", "a/b"}, {"a/b", "c", "a/b/c"}, {"abc/a", "ab", "abc/a/ab"}, {"a", "a", "a/a"},
	} {
		if got := In(c.folder, c.name); got != c.path {
			t.Errorf("In(%q, %q) = %q", c.folder, c.name, got)
		}
		if got := Folder(c.path); got != c.folder {
			t.Errorf("Folder(%q) = %q", c.path, got)
		}
	}
	if got := Folder(Outermost); got != Outermost {
		t.Errorf("the folder of the outermost is %q", got)
	}
}
