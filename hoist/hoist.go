// Package hoist: packages that need packages, laid into a tree: see DOC.md.
package hoist

import (
	"hoist/api"
	"hoist/building"
	"hoist/names"
	"hoist/needs"
	"hoist/paths"
	"hoist/ranges"
	"hoist/stocks"
	"hoist/trees"
	"hoist/versions"
)

// Site has a stock, needs, and a tree.
type Site struct {
	stock stocks.Stock
	needs []needs.Need // by rising names
	tree  trees.Tree
}

// Fits tells whether a version fits a range (P3).
func Fits(rng string, version string) (bool, api.Errno) {
	wanted, isRange := ranges.Parse(rng)
	if !isRange {
		return false, api.ErrRange
	}
	place, isVersion := versions.Parse(version)
	if !isVersion {
		return false, api.ErrVersion
	}
	return wanted.Fits(place), api.OK
}

// Meet tells whether some version fits two ranges (P4).
func Meet(one string, other string) (bool, api.Errno) {
	first, firstIsRange := ranges.Parse(one)
	if !firstIsRange {
		return false, api.ErrRange
	}
	second, secondIsRange := ranges.Parse(other)
	if !secondIsRange {
		return false, api.ErrRange
	}
	return ranges.Meet(first, second), api.OK
}

// Lowest tells the lowest version that fits a range (P4).
func Lowest(rng string) (string, api.Errno) {
	wanted, isRange := ranges.Parse(rng)
	if !isRange {
		return "", api.ErrRange
	}
	lowest, found := wanted.Lowest()
	if !found {
		return "", api.ErrNone
	}
	return lowest.Text(), api.OK
}

// New makes a site with a stock (P5).
func New(stock string) (*Site, api.Errno) {
	known, e := stocks.Parse(stock)
	if e != api.OK {
		return nil, e
	}
	return &Site{stock: known}, api.OK
}

// Add gives the site a need (P6).
func (s *Site) Add(need string) api.Errno {
	added, isNeed := needs.Parse(need)
	if !isNeed {
		return api.ErrText
	}
	others := needs.Without(s.needs, added.Name)
	if len(others) >= api.MaxNeeds {
		return api.ErrMany
	}
	wanted := needs.With(others, added)
	favoured := s.tree
	return s.build(wanted, favoured)
}

// Drop takes a need from the site (P7).
func (s *Site) Drop(name string) api.Errno {
	if !needs.Has(s.needs, name) {
		return api.ErrNone
	}
	wanted := needs.Without(s.needs, name)
	favoured := s.tree
	return s.build(wanted, favoured)
}

// Update builds the tree anew (P7).
func (s *Site) Update() api.Errno {
	wanted := s.needs
	noneFavoured := trees.Tree{}
	return s.build(wanted, noneFavoured)
}

// build gives the site these needs and the tree that is built for them, if
// that goes well.
func (s *Site) build(wanted []needs.Need, favoured trees.Tree) api.Errno {
	built, e := building.Build(s.stock, wanted, favoured)
	if e != api.OK {
		return e
	}
	s.needs = wanted
	s.tree = built
	return api.OK
}

// Needs tells the site's needs (P8).
func (s *Site) Needs() string { return needs.Text(s.needs) }

// Tree tells the site's tree (P8).
func (s *Site) Tree() string { return s.tree.Text() }

// Look tells where a package finds another (P9).
func (s *Site) Look(path string, name string) (string, api.Errno) {
	if path != paths.Outermost && !s.tree.HasAt(path) {
		return "", api.ErrPath
	}
	if !names.IsName(name) {
		return "", api.ErrName
	}
	p, found := s.tree.Find(path, name)
	if !found {
		return "", api.ErrNone
	}
	return p.Path, api.OK
}

// Load makes a tree the site's (P10).
func (s *Site) Load(tree string) api.Errno {
	loaded, e := trees.Parse(tree, s.stock)
	if e != api.OK {
		return e
	}
	if !loaded.IsSound(s.needs) {
		return api.ErrTree
	}
	if !loaded.AllInUse(s.needs) {
		return api.ErrTree
	}
	s.tree = loaded
	return api.OK
}

// Slim takes away packages that can be spared (P11).
func (s *Site) Slim() int {
	before := s.tree.Count()
	slim := s.tree.Slim(s.needs)
	s.tree = slim
	return before - slim.Count()
}
