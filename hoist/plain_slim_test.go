package hoist

import (
	"maps"
	"math/rand"
	"slices"
	"strings"
	"testing"

	"hoist/api"
)

// The document's words on Slim, followed word by word: of all packages each
// time it is asked whether they can be spared.

func (t plainTree) less(path string) plainTree {
	rest := maps.Clone(t)
	maps.DeleteFunc(rest, func(other string, _ plainVersion) bool {
		return other == path || strings.HasPrefix(other, path+"/")
	})
	return rest
}

func (s *plainSite) canBeSpared() []string {
	var all []string
	for path := range s.tree {
		if len(s.unmet(s.tree.less(path))) == 0 {
			all = append(all, path)
		}
	}
	slices.Sort(all)
	return all
}

// plainSlim counts what there was to do, so that a test can tell whether it saw
// enough.
type plainSlim struct {
	rounds  int // how often a package was spared
	choices int // how often there were several that could be
	beneath int // how many went with one that was spared
	unused  int // how many went because they were no longer in use
	later   int // how often one was spared that could not be at first
}

func (s *plainSite) slim() (int, plainSlim) {
	before := len(s.tree)
	first := s.canBeSpared()
	var seen plainSlim
	for all := first; len(all) > 0; all = s.canBeSpared() {
		last := all[len(all)-1]
		rest := s.tree.less(last)
		left := s.inUse(rest, s.needs)
		seen.rounds++
		if len(all) > 1 {
			seen.choices++
		}
		seen.beneath += len(s.tree) - len(rest) - 1
		seen.unused += len(rest) - len(left)
		if !slices.Contains(first, last) {
			seen.later++
		}
		s.tree = left
	}
	return before - len(s.tree), seen
}

func (p *plainSlim) add(other plainSlim) {
	p.rounds += other.rounds
	p.choices += other.choices
	p.beneath += other.beneath
	p.unused += other.unused
	p.later += other.later
}

func checkPlainSlim(t *testing.T, site *Site, plain *plainSite) plainSlim {
	t.Helper()
	before, needs := site.Tree(), site.Needs()
	want, seen := plain.slim()
	got := site.Slim()
	if got != want || site.Tree() != plain.tree.String() || site.Needs() != needs {
		t.Fatalf("P11: with %s and the needs %s, of %q Slim() took %d, and left %q, want %d, %q", plain.stock, needs, before, got, site.Tree(), want, plain.tree)
	}
	return seen
}

func TestP11AsTheDocumentSays(t *testing.T) {
	random := rand.New(rand.NewSource(12))
	var loaded, built plainSlim
	packages := 0
	for range 2500 {
		site, plain, names := someSite(t, random)
		for range 12 {
			call, got, want := someCall(random, site, plain, names)
			if got != want || site.Tree() != plain.tree.String() {
				t.Fatalf("P6, P7: behind Slim, with %s, %s is %d, and the tree is %q, want %d, %q", plain.stock, call, got, site.Tree(), want, plain.tree)
			}
			if random.Intn(2) == 0 {
				built.add(checkPlainSlim(t, site, plain))
			}
			text := someTree(random, plain).String()
			if got, want := site.Load(text), plain.load(text); got != want {
				t.Fatalf("P10: with %s Load(%q) is %d, want %d", plain.stock, text, got, want)
			} else if want == api.OK && random.Intn(4) > 0 {
				packages = max(packages, len(plain.tree))
				loaded.add(checkPlainSlim(t, site, plain))
			}
		}
		checkLooks(t, site, plain, map[api.Errno]int{})
	}
	if least := min(loaded.rounds, loaded.choices, loaded.beneath, loaded.unused, loaded.later); least < 20 || packages < 20 || built.rounds < 20 {
		t.Errorf("so little was spared that this tests less than it should: %v, %v, %d", loaded, built, packages)
	}
	t.Log(loaded, built, packages)
}
