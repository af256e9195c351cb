package trees

import (
	"hoist/needs"
	"hoist/paths"
)

// Slim tells what is left of the tree when packages have been taken away as
// long as one can be spared, if these are the needs of the site.
func (t Tree) Slim(site []needs.Need) Tree {
	left := t
	// Each round takes one package at least, so there are no more of them.
	for range t.packages {
		rest, spared := left.spareLast(site)
		if !spared {
			return left
		}
		left = rest.InUse(site)
	}
	return left
}

// spareLast tells the tree without the last package that can be spared, and
// whether there is one.
func (t Tree) spareLast(site []needs.Need) (Tree, bool) {
	for i := len(t.packages) - 1; i >= 0; i-- {
		rest := t.without(t.packages[i].Path)
		if rest.IsSound(site) {
			return rest, true
		}
	}
	return t, false
}

// without tells the tree without the package at a path and all that lie under
// it.
func (t Tree) without(path string) Tree {
	var rest []Package
	for _, p := range t.packages {
		if p.Path != path && !paths.IsUnder(p.Path, path) {
			rest = append(rest, p)
		}
	}
	return Tree{packages: rest}
}
