package hoist

import (
	"math/rand"
	"slices"
	"strings"
	"testing"

	"hoist/api"
)

// The document's words on sites, followed word by word and slowly: a tree is a
// set of paths with a version each, and every question is asked of all of it.

type plainNeed struct {
	name string
	rng  plainRange
}

func (n plainNeed) String() string { return n.name + n.rng.String() }

type plainEntry struct {
	name    string
	version plainVersion
	needs   []plainNeed
}

func (e plainEntry) String() string {
	text := e.name + "@" + e.version.String()
	if len(e.needs) > 0 {
		text += ":" + plainText(e.needs)
	}
	return text
}

type plainStock []plainEntry

func (s plainStock) String() string {
	var texts []string
	for _, e := range s {
		texts = append(texts, e.String())
	}
	return strings.Join(texts, ";")
}

func plainText(needs []plainNeed) string {
	var texts []string
	for _, n := range needs {
		texts = append(texts, n.String())
	}
	return strings.Join(texts, ",")
}

func byRisingNames(needs []plainNeed) []plainNeed {
	return slices.SortedFunc(slices.Values(needs), func(one, other plainNeed) int { return strings.Compare(one.name, other.name) })
}

type plainTree map[string]plainVersion

func (t plainTree) String() string {
	var ordered []string
	for path := range t {
		ordered = append(ordered, path)
	}
	slices.Sort(ordered)
	var texts []string
	for _, path := range ordered {
		texts = append(texts, path+"@"+t[path].String())
	}
	return strings.Join(texts, ";")
}

// folders tells a path, its folder, that one's folder, .. up to the outermost.
func folders(path string) []string {
	all := []string{path}
	for path != "" {
		path = path[:max(0, strings.LastIndex(path, "/"))]
		all = append(all, path)
	}
	return all
}

func inFolder(folder, name string) string { return strings.TrimPrefix(folder+"/"+name, "/") }

func ownName(path string) string { return path[strings.LastIndex(path, "/")+1:] }

func (t plainTree) look(path, name string) (string, bool) {
	for _, folder := range folders(path) {
		if _, lies := t[inFolder(folder, name)]; lies {
			return inFolder(folder, name), true
		}
	}
	return "", false
}

func (t plainTree) meets(path string, n plainNeed) bool {
	found, ok := t.look(path, n.name)
	return ok && n.rng.fits(t[found])
}

type plainSite struct {
	stock plainStock
	needs []plainNeed
	tree  plainTree
}

func (s *plainSite) needsOf(tree plainTree, path string) []plainNeed {
	for _, e := range s.stock {
		if e.name == ownName(path) && e.version == tree[path] {
			return e.needs
		}
	}
	return nil
}

func (s *plainSite) inUse(tree plainTree, needs []plainNeed) plainTree {
	used := plainTree{}
	mark := func(path string, needs []plainNeed) {
		for _, n := range needs {
			if found, ok := tree.look(path, n.name); ok {
				used[found] = tree[found]
			}
		}
	}
	mark("", needs)
	for before := -1; before != len(used); {
		before = len(used)
		for path := range tree {
			if _, isUsed := used[path]; isUsed {
				mark(path, s.needsOf(tree, path))
			}
		}
	}
	return used
}

type plainAsked struct {
	path string
	need plainNeed
}

func (s *plainSite) choose(n plainNeed, favoured plainTree) (plainVersion, bool) {
	var all, liked []plainVersion
	for _, e := range s.stock {
		if e.name != n.name || !n.rng.fits(e.version) {
			continue
		}
		all = append(all, e.version)
		for path, v := range favoured {
			if ownName(path) == n.name && v == e.version {
				liked = append(liked, v)
			}
		}
	}
	if len(liked) > 0 {
		all = liked
	}
	var greatest plainVersion
	for _, v := range all {
		if greatest.below(v) {
			greatest = v
		}
	}
	return greatest, len(all) > 0
}

func willDo(tree plainTree, folder, path string, n plainNeed, v plainVersion, gone []plainAsked) bool {
	place := inFolder(folder, n.name)
	if _, lies := tree[place]; lies {
		return false
	}
	tree[place] = v
	found, _ := tree.look(path, n.name)
	good := found == place && tree.meets(path, n)
	for _, a := range gone {
		good = good && tree.meets(a.path, a.need)
	}
	delete(tree, place)
	return good
}

func (s *plainSite) build(needs []plainNeed, favoured plainTree) (plainTree, api.Errno) {
	tree := plainTree{}
	list := []string{""}
	var gone []plainAsked
	for i := 0; i < len(list); i++ {
		path := list[i]
		mine := needs
		if path != "" {
			mine = s.needsOf(tree, path)
		}
		for _, n := range byRisingNames(mine) {
			if !tree.meets(path, n) {
				v, fits := s.choose(n, favoured)
				if !fits {
					return nil, api.ErrNoMatch
				}
				if len(tree) == api.MaxPackages {
					return nil, api.ErrFull
				}
				chain := folders(path)
				slices.Reverse(chain)
				at := slices.IndexFunc(chain, func(folder string) bool { return willDo(tree, folder, path, n, v, gone) })
				laid := inFolder(chain[at], n.name)
				tree[laid] = v
				list = append(list, laid)
			}
			gone = append(gone, plainAsked{path, n})
		}
	}
	return s.inUse(tree, needs), api.OK
}

func (s *plainSite) rebuild(needs []plainNeed, favoured plainTree) api.Errno {
	tree, e := s.build(needs, favoured)
	if e == api.OK {
		s.needs, s.tree = needs, tree
	}
	return e
}

func (s *plainSite) without(name string) []plainNeed {
	return slices.DeleteFunc(slices.Clone(s.needs), func(n plainNeed) bool { return n.name == name })
}

func (s *plainSite) add(n plainNeed) api.Errno {
	needs := append(s.without(n.name), n)
	if len(needs) > api.MaxNeeds {
		return api.ErrMany
	}
	return s.rebuild(needs, s.tree)
}

func (s *plainSite) drop(name string) api.Errno {
	needs := s.without(name)
	if len(needs) == len(s.needs) {
		return api.ErrNone
	}
	return s.rebuild(needs, s.tree)
}

func (s *plainSite) update() api.Errno { return s.rebuild(s.needs, nil) }

// Few names and few versions, so that packages often stand in each other's
// way; names of which one is the beginning of another.
var someNames = []string{"a", "b", "c", "d", "ab", "abc", "ba"}

var someReleases = []plainVersion{{1, 0, 0}, {1, 4, 0}, {2, 0, 0}, {3, 0, 0}}

func someWish(random *rand.Rand) plainRange {
	signs := []string{"*", "*", "=", "=", "=", ">", ">=", "<", "<=", "^", "~"}
	var r plainRange
	for range 1 + random.Intn(5)/4 {
		v := someReleases[random.Intn(len(someReleases))]
		r = append(r, []plainCondition{{signs[random.Intn(len(signs))], v}})
	}
	return r
}

func someNeed(random *rand.Rand, names []string) plainNeed {
	return plainNeed{names[random.Intn(len(names))], someWish(random)}
}

func someNeeds(random *rand.Rand, names []string, most int) []plainNeed {
	var needs []plainNeed
	for range random.Intn(most + 1) {
		n := someNeed(random, names)
		if !slices.ContainsFunc(needs, func(other plainNeed) bool { return other.name == n.name }) {
			needs = append(needs, n)
		}
	}
	return needs
}

func someStock(random *rand.Rand, names []string) plainStock {
	var stock plainStock
	most := 1 + random.Intn(4)
	for _, name := range names {
		for _, v := range someReleases {
			if random.Intn(6) > 0 {
				stock = append(stock, plainEntry{name, v, someNeeds(random, names, most)})
			}
		}
	}
	random.Shuffle(len(stock), func(i, j int) { stock[i], stock[j] = stock[j], stock[i] })
	return stock
}

// someSite tells a new site and its plain twin, and names that their stock has.
func someSite(t *testing.T, random *rand.Rand) (*Site, *plainSite, []string) {
	t.Helper()
	names := someNames[:1+random.Intn(len(someNames))]
	stock := someStock(random, names)
	return newSite(t, stock.String()), &plainSite{stock: stock}, names
}

// someCall makes one call of both, and tells what it was and what they
// answered.
func someCall(random *rand.Rand, site *Site, plain *plainSite, names []string) (string, api.Errno, api.Errno) {
	switch kind := random.Intn(12); {
	case kind < 9:
		n := someNeed(random, names)
		return "Add " + n.String(), site.Add(n.String()), plain.add(n)
	case kind < 11:
		name := names[random.Intn(len(names))]
		return "Drop " + name, site.Drop(name), plain.drop(name)
	}
	return "Update", site.Update(), plain.update()
}

// unmet tells the needs that are not met in a tree.
func (s *plainSite) unmet(tree plainTree) []plainAsked {
	all := []plainAsked{}
	for _, n := range s.needs {
		all = append(all, plainAsked{"", n})
	}
	for path := range tree {
		for _, n := range s.needsOf(tree, path) {
			all = append(all, plainAsked{path, n})
		}
	}
	return slices.DeleteFunc(all, func(a plainAsked) bool { return tree.meets(a.path, a.need) })
}

func checkSound(t *testing.T, plain *plainSite) {
	t.Helper()
	for _, a := range plain.unmet(plain.tree) {
		t.Errorf("P6, P7: %s is not sound: %q does not find %s", plain.tree, a.path, a.need)
	}
}

func TestP6ToP8AsTheDocumentSays(t *testing.T) {
	random := rand.New(rand.NewSource(6))
	seen := map[api.Errno]int{}
	deepest := 0
	for range 2500 {
		site, plain, names := someSite(t, random)
		calls := ""
		for range 16 {
			call, got, want := someCall(random, site, plain, names)
			calls += call + "; "
			tree, needs := plain.tree.String(), plainText(byRisingNames(plain.needs))
			if got != want || site.Tree() != tree || site.Needs() != needs {
				t.Fatalf("P6 to P8: with %s, behind %s:\n%d, %q, %q, want\n%d, %q, %q", plain.stock, calls, got, site.Tree(), site.Needs(), want, tree, needs)
			}
			checkSound(t, plain)
			seen[want]++
			for path := range plain.tree {
				deepest = max(deepest, strings.Count(path, "/"))
			}
		}
	}
	for _, e := range []api.Errno{api.OK, api.ErrNone, api.ErrNoMatch, api.ErrFull, api.ErrMany} {
		if seen[e] == 0 {
			t.Errorf("none of the calls was %d, so that this tests less than it should", e)
		}
	}
	if deepest < 3 {
		t.Errorf("no tree was deep, so that this tests less than it should: %d", deepest)
	}
	t.Log(seen, deepest)
}

// In what order entries and needs stand makes no difference.
func TestP5OrderMakesNoDifference(t *testing.T) {
	random := rand.New(rand.NewSource(5))
	for range 300 {
		names := someNames[:2+random.Intn(4)]
		stock := someStock(random, names)
		site, _ := New(stock.String())
		other := slices.Clone(stock)
		random.Shuffle(len(other), func(i, j int) { other[i], other[j] = other[j], other[i] })
		for i, e := range other {
			needs := slices.Clone(e.needs)
			random.Shuffle(len(needs), func(i, j int) { needs[i], needs[j] = needs[j], needs[i] })
			other[i].needs = needs
		}
		twin, _ := New(other.String())
		if site == nil || twin == nil {
			t.Fatalf("P5: %v, %v of %q, %q", site, twin, stock, other)
		}
		for range 6 {
			n := someNeed(random, names)
			one, two := site.Add(n.String()), twin.Add(n.String())
			if one != two || site.Tree() != twin.Tree() {
				t.Fatalf("'A stock': with %s and with %s Add(%q) is %d and %d, the tree %q and %q", stock, other, n, one, two, site.Tree(), twin.Tree())
			}
		}
	}
}
