package hoist

import (
	"math/rand"
	"regexp"
	"slices"
	"strconv"
	"strings"
	"testing"

	"hoist/api"
)

// The document's words on Look and Load, followed word by word: a text is a
// tree's if that tree, written by rising paths, has this text.

var plainName = regexp.MustCompile(`^[a-z]{1,3}$`)

var plainPackage = regexp.MustCompile(`^([a-z]{1,3}(?:/[a-z]{1,3})*)@(0|[1-9][0-9]?)\.(0|[1-9][0-9]?)\.(0|[1-9][0-9]?)$`)

func (s *plainSite) lookFor(path, name string) (string, api.Errno) {
	if _, lies := s.tree[path]; path != "" && !lies {
		return "", api.ErrPath
	}
	if !plainName.MatchString(name) {
		return "", api.ErrName
	}
	found, ok := s.tree.look(path, name)
	if !ok {
		return "", api.ErrNone
	}
	return found, api.OK
}

func (s *plainSite) isTree(tree plainTree) bool {
	for path, v := range tree {
		folder := folders(path)[1]
		if _, lies := tree[folder]; folder != "" && !lies {
			return false
		}
		if !slices.ContainsFunc(s.stock, func(e plainEntry) bool { return e.name == ownName(path) && e.version == v }) {
			return false
		}
	}
	return true
}

func (s *plainSite) parse(text string) (plainTree, bool) {
	tree := plainTree{}
	if text == "" {
		return tree, true
	}
	for _, piece := range strings.Split(text, ";") {
		parts := plainPackage.FindStringSubmatch(piece)
		if parts == nil {
			return nil, false
		}
		var v plainVersion
		for i := range v {
			v[i], _ = strconv.Atoi(parts[2+i])
		}
		tree[parts[1]] = v
	}
	return tree, s.isTree(tree) && tree.String() == text
}

func (s *plainSite) load(text string) api.Errno {
	if len(text) > api.MaxTree {
		return api.ErrLong
	}
	tree, ok := s.parse(text)
	if !ok || len(tree) > api.MaxPackages || len(s.unmet(tree)) > 0 || len(s.inUse(tree, s.needs)) < len(tree) {
		return api.ErrTree
	}
	s.tree = tree
	return api.OK
}

// someTree lays packages for needs anywhere, also where the needs are met
// already, so that most of these trees are none that would be built.
func someTree(random *rand.Rand, s *plainSite) plainTree {
	tree := plainTree{}
	for range 4 {
		list := []string{""}
		for path := range tree {
			list = append(list, path)
		}
		slices.Sort(list)
		for i := 0; i < len(list) && len(tree) < api.MaxPackages+2; i++ {
			needs := s.needs
			if list[i] != "" {
				needs = s.needsOf(tree, list[i])
			}
			for _, n := range needs {
				if tree.meets(list[i], n) && random.Intn(5) > 0 {
					continue
				}
				if laid, ok := someLaid(random, s, tree, list[i], n); ok {
					list = append(list, laid)
				}
			}
		}
	}
	return s.inUse(tree, s.needs)
}

// someLaid lays a package that fits a need, in some folder in which who has the
// need looks.
func someLaid(random *rand.Rand, s *plainSite, tree plainTree, path string, n plainNeed) (string, bool) {
	var fitting []plainVersion
	for _, e := range s.stock {
		if e.name == n.name && n.rng.fits(e.version) {
			fitting = append(fitting, e.version)
		}
	}
	chain := folders(path)
	place := inFolder(chain[random.Intn(len(chain))], n.name)
	if _, lies := tree[place]; lies || len(fitting) == 0 {
		return "", false
	}
	tree[place] = fitting[random.Intn(len(fitting))]
	return place, true
}

// spoil changes one package of a tree: another version, away with it, or one
// more.
func spoil(random *rand.Rand, s *plainSite, tree plainTree) {
	paths := []string{""}
	for path := range tree {
		paths = append(paths, path)
	}
	slices.Sort(paths)
	path := paths[random.Intn(len(paths))]
	e := s.stock[random.Intn(len(s.stock))]
	switch kind := random.Intn(3); {
	case kind == 0 && path != "":
		tree[path] = someReleases[random.Intn(len(someReleases))]
	case kind == 1 && path != "":
		delete(tree, path)
	default:
		tree[inFolder(path, e.name)] = e.version
	}
}

// spoilText changes the order of a tree's packages, or a few of its bytes.
func spoilText(random *rand.Rand, text string) string {
	texts := strings.Split(text, ";")
	i, j := random.Intn(len(texts)), random.Intn(len(texts))
	switch random.Intn(4) {
	case 0:
		texts[i], texts[j] = texts[j], texts[i]
		return strings.Join(texts, ";")
	case 1:
		return strings.Join(slices.Insert(texts, i, texts[j]), ";")
	}
	bytes := []string{"", "", "a", "b", "z", "A", "/", "@", ";", ".", "0", "1", "9", ",", " ", "\n", "\x00", "\xff", "a/", "/a", "@1.0.0", ";a@1.0.0"}
	at := random.Intn(len(text) + 1)
	to := min(len(text), at+random.Intn(2))
	return text[:at] + bytes[random.Intn(len(bytes))] + text[to:]
}

func someText(random *rand.Rand, s *plainSite) string {
	tree := someTree(random, s)
	if random.Intn(4) == 0 && len(s.stock) > 0 {
		spoil(random, s, tree)
	}
	text := tree.String()
	if random.Intn(4) == 0 {
		text = spoilText(random, text)
	}
	return text
}

func checkLooks(t *testing.T, site *Site, plain *plainSite, seen map[api.Errno]int) {
	t.Helper()
	paths := []string{"", "a", "a/b", "a/", "/a", "abc/a", "zzz", "a@1.0.0"}
	for path := range plain.tree {
		paths = append(paths, path)
	}
	names := append([]string{"z", "", "A", "a/b", "abcd"}, someNames...)
	for _, path := range paths {
		for _, name := range names {
			want, wantErr := plain.lookFor(path, name)
			if got, e := site.Look(path, name); got != want || e != wantErr {
				t.Fatalf("P9: of %s Look(%q, %q) is %q, %d, want %q, %d", plain.tree, path, name, got, e, want, wantErr)
			}
			seen[wantErr]++
		}
	}
}

func TestP9AndP10AsTheDocumentSays(t *testing.T) {
	random := rand.New(rand.NewSource(10))
	seen := map[api.Errno]int{}
	looked := map[api.Errno]int{}
	packages, unbuilt := 0, 0
	for range 2500 {
		site, plain, names := someSite(t, random)
		calls := ""
		for range 16 {
			before := plain.tree.String()
			var call string
			var got, want api.Errno
			if random.Intn(2) == 0 {
				text := someText(random, plain)
				call, got, want = "Load "+text, site.Load(text), plain.load(text)
				seen[want]++
				if want == api.OK && text != before {
					unbuilt++
					packages = max(packages, len(plain.tree))
				}
			} else {
				call, got, want = someCall(random, site, plain, names)
			}
			calls += call + "; "
			tree, needs := plain.tree.String(), plainText(byRisingNames(plain.needs))
			if got != want || site.Tree() != tree || site.Needs() != needs {
				t.Fatalf("P6 to P10: with %s, behind %s:\n%d, %q, %q, want\n%d, %q, %q", plain.stock, calls, got, site.Tree(), site.Needs(), want, tree, needs)
			}
		}
		checkLooks(t, site, plain, looked)
	}
	if seen[api.OK] < 1000 || seen[api.ErrTree] < 1000 || unbuilt < 1000 || packages < 20 {
		t.Errorf("so few trees were loaded or refused that this tests less than it should: %v, %d, %d", seen, unbuilt, packages)
	}
	for _, e := range []api.Errno{api.OK, api.ErrNone, api.ErrPath, api.ErrName} {
		if looked[e] < 1000 {
			t.Errorf("so few looks were %d that this tests less than it should", e)
		}
	}
	t.Log(seen, looked, unbuilt, packages)
}

// What a site tells as its tree can be loaded, also into another with the same
// stock and needs, and leaves it as it is.
func TestP10TreesThatWereBuilt(t *testing.T) {
	random := rand.New(rand.NewSource(11))
	for range 500 {
		site, plain, names := someSite(t, random)
		for range 6 {
			someCall(random, site, plain, names)
		}
		tree, needs := site.Tree(), site.Needs()
		if e := site.Load(tree); e != api.OK {
			t.Errorf("P10: with %s and the needs %s Load of its own tree %q is %d", plain.stock, needs, tree, e)
		}
		checkSite(t, site, needs, tree)
		twin := newSite(t, plain.stock.String())
		for _, n := range plain.needs {
			twin.Add(n.String())
		}
		if twin.Needs() != needs {
			continue // without the favoured versions there was no tree
		}
		if e := twin.Load(tree); e != api.OK {
			t.Errorf("P10: with %s and the needs %s Load(%q) is %d", plain.stock, needs, tree, e)
		}
		checkSite(t, twin, needs, tree)
	}
}
