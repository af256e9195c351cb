// Package building: trees, built for needs out of a stock.
package building

import (
	"hoist/api"
	"hoist/needs"
	"hoist/paths"
	"hoist/stocks"
	"hoist/trees"
)

// asked is a need that was gone through, with the path of who has it.
type asked struct {
	path string
	need needs.Need
}

// work is a tree that is being built.
type work struct {
	stock    stocks.Stock
	favoured trees.Tree
	tree     trees.Tree
	list     []trees.Who
	gone     []asked
}

// Build tells the tree that is built for the needs of the site, or why there
// is none. Favoured are the versions that the packages of a tree have.
func Build(stock stocks.Stock, site []needs.Need, favoured trees.Tree) (trees.Tree, api.Errno) {
	w := work{stock: stock, favoured: favoured}
	w.list = append(w.list, trees.Who{Path: paths.Outermost, Needs: site})
	// The list grows by the packages that are laid: by MaxPackages at the most.
	for next := 0; next < len(w.list); next++ {
		who := w.list[next]
		e := w.workAt(who)
		if e != api.OK {
			return trees.Tree{}, e
		}
	}
	return w.tree.InUse(site), api.OK
}

func (w *work) workAt(who trees.Who) api.Errno {
	for _, n := range who.Needs {
		if !w.tree.Meets(who.Path, n) {
			e := w.lay(who.Path, n)
			if e != api.OK {
				return e
			}
		}
		w.gone = append(w.gone, asked{path: who.Path, need: n})
	}
	return api.OK
}

// lay lays a package for a need of who has this path.
func (w *work) lay(path string, n needs.Need) api.Errno {
	entry, found := w.choose(n)
	if !found {
		return api.ErrNoMatch
	}
	if w.tree.Count() >= api.MaxPackages {
		return api.ErrFull
	}
	laid := w.place(path, entry)
	w.tree = w.tree.With(laid)
	w.list = append(w.list, trees.Who{Path: laid.Path, Needs: entry.Needs})
	return api.OK
}

// choose tells the entry that is taken for a need, and whether one fits.
func (w *work) choose(n needs.Need) (stocks.Entry, bool) {
	best := stocks.Entry{}
	bestIsFavoured := false
	found := false
	for _, entry := range w.stock.Fitting(n) {
		isFavoured := w.favoured.Has(entry.Name, entry.Version)
		better := entry.Version > best.Version
		if isFavoured != bestIsFavoured {
			better = isFavoured
		}
		if !found || better {
			best = entry
			bestIsFavoured = isFavoured
		}
		found = true
	}
	return best, found
}

// place tells where an entry comes to lie for a need of who has this path: in
// the outermost folder that will do.
func (w *work) place(path string, entry stocks.Entry) trees.Package {
	folder := path
	best := trees.Package{Path: paths.In(folder, entry.Name), Entry: entry} // this always will do
	for folder != paths.Outermost {
		folder = paths.Folder(folder)
		laid := trees.Package{Path: paths.In(folder, entry.Name), Entry: entry}
		if w.willDo(path, laid) {
			best = laid
		}
	}
	return best
}

// willDo tells whether a package can be laid at its path for a need of who has
// another path.
func (w *work) willDo(path string, laid trees.Package) bool {
	if w.tree.HasAt(laid.Path) {
		return false
	}
	with := w.tree.With(laid)
	p, found := with.Find(path, laid.Entry.Name)
	if !found || p.Path != laid.Path {
		return false // one that lies deeper hides it
	}
	for _, earlier := range w.gone {
		if !with.Meets(earlier.path, earlier.need) {
			return false
		}
	}
	return true
}
