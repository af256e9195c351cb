// Package trees: packages at their paths.
package trees

import (
	"hoist/needs"
	"hoist/paths"
	"hoist/pieces"
	"hoist/stocks"
	"hoist/versions"
)

// Package is an entry of the stock that lies at a path. The path ends in the
// entry's name.
type Package struct {
	Path  string
	Entry stocks.Entry
}

// Who is one who needs: a package, or the site.
type Who struct {
	Path  string
	Needs []needs.Need
}

// Tree has packages by rising paths, no two at one path.
type Tree struct {
	packages []Package
}

// Count tells how many packages there are.
func (t Tree) Count() int { return len(t.packages) }

// With tells the tree with one more package, at a path that has none yet.
func (t Tree) With(added Package) Tree {
	var all []Package
	placed := false
	for _, p := range t.packages {
		if !placed && added.Path < p.Path {
			all = append(all, added)
			placed = true
		}
		all = append(all, p)
	}
	if !placed {
		all = append(all, added)
	}
	return Tree{packages: all}
}

// in tells the package of a name that lies in a folder, and whether one does.
func (t Tree) in(folder string, name string) (Package, bool) {
	for _, p := range t.packages {
		// The names first, as they are short and mostly differ.
		if p.Entry.Name == name && paths.Folder(p.Path) == folder {
			return p, true
		}
	}
	return Package{}, false
}

// Find tells the package that who has a path finds for a name, and whether one
// is found.
func (t Tree) Find(path string, name string) (Package, bool) {
	folder := path
	for folder != paths.Outermost {
		p, found := t.in(folder, name)
		if found {
			return p, true
		}
		folder = paths.Folder(folder)
	}
	return t.in(paths.Outermost, name)
}

// Meets tells whether a need is met of who has a path.
func (t Tree) Meets(path string, n needs.Need) bool {
	p, found := t.Find(path, n.Name)
	return found && n.Range.Fits(p.Entry.Version)
}

// IsSound tells whether all needs are met, if these are the needs of the site.
func (t Tree) IsSound(site []needs.Need) bool {
	if !t.meetsAll(paths.Outermost, site) {
		return false
	}
	for _, p := range t.packages {
		if !t.meetsAll(p.Path, p.Entry.Needs) {
			return false
		}
	}
	return true
}

func (t Tree) meetsAll(path string, list []needs.Need) bool {
	for _, n := range list {
		if !t.Meets(path, n) {
			return false
		}
	}
	return true
}

// Has tells whether a package of a name has a version, wherever it lies.
func (t Tree) Has(name string, version versions.Version) bool {
	for _, p := range t.packages {
		if p.Entry.Name == name && p.Entry.Version == version {
			return true
		}
	}
	return false
}

// InUse tells the tree of those packages alone that are in use, if these are
// the needs of the site.
func (t Tree) InUse(site []needs.Need) Tree {
	used := Tree{}
	list := []Who{{Path: paths.Outermost, Needs: site}}
	for next := 0; next < len(list); next++ {
		who := list[next]
		for _, n := range who.Needs {
			p, found := t.Find(who.Path, n.Name)
			if found && !used.HasAt(p.Path) {
				used = used.With(p)
				list = append(list, Who{Path: p.Path, Needs: p.Entry.Needs})
			}
		}
	}
	return used
}

// AllInUse tells whether all packages are in use, if these are the needs of the
// site.
func (t Tree) AllInUse(site []needs.Need) bool {
	used := t.InUse(site)
	return len(used.packages) == len(t.packages)
}

// HasAt tells whether there is a package at a path.
func (t Tree) HasAt(path string) bool {
	for _, p := range t.packages {
		if p.Path == path {
			return true
		}
	}
	return false
}

// Text tells the tree as text.
func (t Tree) Text() string {
	var texts []string
	for _, p := range t.packages {
		version := p.Entry.Version.Text()
		texts = append(texts, p.Path+"@"+version)
	}
	return pieces.Join(texts, ";")
}
