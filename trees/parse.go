package trees

import (
	"hoist/api"
	"hoist/paths"
	"hoist/pieces"
	"hoist/stocks"
	"hoist/versions"
)

// Parse tells the tree that a text is, by a stock, or what is wrong with it.
func Parse(text string, stock stocks.Stock) (Tree, api.Errno) {
	if len(text) > api.MaxTree {
		return Tree{}, api.ErrLong
	}
	tree, ok := parsePackages(text, stock)
	if !ok {
		return Tree{}, api.ErrTree
	}
	return tree, api.OK
}

func parsePackages(text string, stock stocks.Stock) (Tree, bool) {
	tree := Tree{}
	if text == "" {
		return tree, true
	}
	texts := pieces.Split(text, ';')
	if len(texts) > api.MaxPackages {
		return Tree{}, false
	}
	last := "" // ahead of all paths
	for _, one := range texts {
		p, ok := parsePackage(one, stock)
		if !ok || p.Path <= last {
			return Tree{}, false
		}
		// By rising paths a folder's package stands ahead of what lies in it.
		if !tree.hasFolder(p.Path) {
			return Tree{}, false
		}
		tree = tree.With(p)
		last = p.Path
	}
	return tree, true
}

func parsePackage(text string, stock stocks.Stock) (Package, bool) {
	path, version, hasVersion := pieces.Cut(text, '@')
	if !hasVersion || !paths.IsPath(path) {
		return Package{}, false
	}
	v, ok := versions.Parse(version)
	if !ok {
		return Package{}, false
	}
	name := paths.Name(path)
	entry, found := stock.Find(name, v)
	if !found {
		return Package{}, false
	}
	return Package{Path: path, Entry: entry}, true
}

// hasFolder tells whether the folder of a path is there.
func (t Tree) hasFolder(path string) bool {
	folder := paths.Folder(path)
	return folder == paths.Outermost || t.HasAt(folder)
}
