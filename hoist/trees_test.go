package hoist

import (
	"strings"
	"testing"

	"hoist/api"
)

func checkLook(t *testing.T, site *Site, path string, name string, want string, wantErr api.Errno) {
	t.Helper()
	needs := site.Needs()
	tree := site.Tree()
	if got, e := site.Look(path, name); got != want || e != wantErr {
		t.Errorf("P9: of %q Look(%.40q, %.40q) = %.40q, %d, want %q, %d", tree, path, name, got, e, want, wantErr)
	}
	checkSite(t, site, needs, tree)
}

// checkLoads adds needs, with a blank between each two, and loads trees that
// are all accepted.
func checkLoads(t *testing.T, stock string, needs string, trees ...string) {
	t.Helper()
	site := siteWith(t, stock, needs)
	for _, tree := range trees {
		if e := site.Load(tree); e != api.OK {
			t.Errorf("P10: with the needs %q Load(%.200q) is %d", needs, tree, e)
		}
		checkSite(t, site, site.Needs(), tree)
	}
}

// checkLoadsRefused does so with trees that are none, or not of this site.
func checkLoadsRefused(t *testing.T, stock string, needs string, trees ...string) {
	t.Helper()
	site := siteWith(t, stock, needs)
	for _, tree := range trees {
		checkRefused(t, site, "<"+tree, api.ErrTree)
	}
}

func siteWith(t *testing.T, stock string, needs string) *Site {
	t.Helper()
	site := newSite(t, stock)
	for _, need := range strings.Fields(needs) {
		if e := site.Add(need); e != api.OK {
			t.Fatalf("P6: Add(%q) is %d", need, e)
		}
	}
	return site
}

func TestDocumentsExamplesOfLookAndLoad(t *testing.T) {
	site := siteWith(t, documentsStock, "b^2.0.0 c*")
	checkLook(t, site, "c", "a", "a", api.OK)
	checkLook(t, site, "c", "b", "c/b", api.OK)
	checkLook(t, site, "c/b", "b", "c/b", api.OK)
	checkLook(t, site, "", "b", "b", api.OK)
	checkLook(t, site, "d", "e", "", api.ErrNone)
	checkLook(t, site, "x", "b", "", api.ErrPath)
	checkLoads(t, documentsStock, "a*", "a@1.0.0;b@1.0.0", "a@1.0.0;a/b@1.4.0")
	checkLoadsRefused(t, documentsStock, "a*", "a@1.0.0", "b@1.4.0;a@1.0.0", "a@1.0.0;b@1.4.0;c@1.0.0", "a@1.0.0;a/b@1.4.0;b@1.0.0")
	checkLoads(t, documentsStock, "a* b^1.0.0", "a@1.0.0;a/b@1.0.0;b@1.4.0")
}

// Every package of this stock has every need, so that trees can be laid at will.
const freeStock = "a@1.0.0:a*,ab*,b*;ab@1.0.0:a*,ab*,b*;b@1.0.0:a*,ab*,b*"

// Paths and names of which one is the beginning of another; a folder that has
// the name of what lies in it.
func TestP9Look(t *testing.T) {
	tree := "a@1.0.0;a/b@1.0.0;a/b/a@1.0.0;a/b/a/b@1.0.0;ab@1.0.0;ab/ab@1.0.0;ab/b@1.0.0;b@1.0.0"
	site := checkCalls(t, freeStock, "+a* +b* <"+tree, "a*,b*", tree)
	for _, c := range []struct{ path, name, want string }{
		{"", "a", "a"}, {"", "ab", "ab"}, {"", "b", "b"},
		{"a", "a", "a"}, {"a", "b", "a/b"}, {"a", "ab", "ab"},
		{"a/b", "a", "a/b/a"}, {"a/b", "b", "a/b"}, {"a/b", "ab", "ab"},
		{"a/b/a", "a", "a/b/a"}, {"a/b/a", "b", "a/b/a/b"}, {"a/b/a", "ab", "ab"},
		{"a/b/a/b", "a", "a/b/a"}, {"a/b/a/b", "b", "a/b/a/b"}, {"a/b/a/b", "ab", "ab"},
		{"ab", "a", "a"}, {"ab", "ab", "ab/ab"}, {"ab", "b", "ab/b"},
		{"ab/ab", "a", "a"}, {"ab/ab", "ab", "ab/ab"}, {"ab/ab", "b", "ab/b"},
		{"ab/b", "ab", "ab/ab"}, {"ab/b", "b", "ab/b"},
		{"b", "a", "a"}, {"b", "ab", "ab"}, {"b", "b", "b"},
	} {
		checkLook(t, site, c.path, c.name, c.want, api.OK)
	}
	for _, path := range []string{"", "a", "a/b/a/b", "ab/b", "b"} {
		for _, name := range []string{"c", "aa", "ba", "abc", "aba"} {
			checkLook(t, site, path, name, "", api.ErrNone)
		}
	}
}

func wrongPaths() []string {
	return []string{
		"x", "aa", "abc", "a/a", "b/a", "ab/a", "a/b/b", "a/b/a/b/a", "a/b/a/a", "b/b", // no package there
		"/", "//", "a/", "/a", "a//b", "a/b/", "/a/b", " ", " a", "a ", "A", "a@1.0.0", "a\x00", "a;b", "a.b", ".", "..", "a/../b", "./a", "\xff", "abcd", "*",
		strings.Repeat("a", 3000000), strings.Repeat("a/", 2000000), strings.Repeat("/", 3000000), "a" + strings.Repeat("/a", 2000000), strings.Repeat("a/b/", 100) + "a",
	}
}

func noNames() []string {
	return []string{"", " ", "A", "aB", "a ", " a", "a1", "1", "abcd", "abab", "a/b", "/a", "a/", "/", "*", "a*", "a@1.0.0", "a\x00", "\x00", "\xff", "é", "`", "{", ".", strings.Repeat("a", 3000000)}
}

func TestP9Errors(t *testing.T) {
	tree := "a@1.0.0;a/b@1.0.0;a/b/a@1.0.0;a/b/a/b@1.0.0;ab@1.0.0;b@1.0.0"
	site := checkCalls(t, freeStock, "+a* <"+tree, "a*", tree)
	for _, path := range wrongPaths() {
		checkLook(t, site, path, "a", "", api.ErrPath)
		checkLook(t, site, path, "zzz", "", api.ErrPath)
		checkLook(t, site, path, "", "", api.ErrPath)
		checkLook(t, site, path, "abcd", "", api.ErrPath)
	}
	for _, name := range noNames() {
		for _, path := range []string{"", "a", "a/b", "a/b/a/b", "ab"} {
			checkLook(t, site, path, name, "", api.ErrName)
		}
		checkLook(t, site, "x", name, "", api.ErrPath)
	}
}

func TestP9EmptyTree(t *testing.T) {
	for _, stock := range []string{"", documentsStock} {
		site := newSite(t, stock)
		checkLook(t, site, "", "a", "", api.ErrNone)
		checkLook(t, site, "", "", "", api.ErrName)
		checkLook(t, site, "a", "a", "", api.ErrPath)
		checkLook(t, site, "a", "", "", api.ErrPath)
	}
}

// Each call that changes the tree changes what is found, and no refused one
// does.
func TestP9TheTreeAsItIsNow(t *testing.T) {
	site := siteWith(t, documentsStock, "a*")
	checkLook(t, site, "a", "b", "b", api.OK)
	for _, c := range []struct{ call, found string }{{"+b^2.0.0", "a/b"}, {"-b", "b"}, {"<a@1.0.0;a/b@1.0.0", "a/b"}, {"!", "b"}} {
		if e := makeCall(site, c.call); e != api.OK {
			t.Errorf("P6, P7, P10: %q is %d", c.call, e)
		}
		checkLook(t, site, "a", "b", c.found, api.OK)
		for _, wrong := range []string{"+x*", "-x", "<a@1.0.0", "<b@1.0.0"} {
			makeCall(site, wrong)
			checkLook(t, site, "a", "b", c.found, api.OK)
		}
	}
	makeCall(site, "-a")
	checkLook(t, site, "a", "b", "", api.ErrPath)
	checkLook(t, site, "", "b", "", api.ErrNone)
}

func TestP10Trees(t *testing.T) {
	checkLoads(t, "", "", "")
	checkLoads(t, documentsStock, "", "")
	checkLoads(t, documentsStock, "b*", "b@1.0.0", "b@1.4.0", "a@1.0.0;a/b@1.0.0;b@2.0.0", "b@2.0.0;b/a@1.0.0;b/a/b@1.4.0", "b@2.0.0;b/a@1.0.0;b/b@1.0.0", "b@1.0.0")
	checkLoads(t, documentsStock, "c*", "b@1.0.0;c@1.0.0;d@1.0.0", "c@1.0.0;c/b@1.0.0;c/d@1.0.0", "c@1.0.0;c/b@1.4.0;c/d@1.0.0;c/d/b@1.0.0", "b@1.0.0;c@1.0.0;c/b@1.4.0;d@1.0.0", "b@1.0.0;c@1.0.0;c/b@1.0.0;d@1.0.0")
	// A package that finds itself, and one that does not, as another lies in it.
	checkLoads(t, "a@1.0.0:a*;a@2.0.0:a*", "a*", "a@1.0.0", "a@2.0.0", "a@1.0.0;a/a@1.0.0", "a@2.0.0;a/a@1.0.0;a/a/a@2.0.0")
	// Paths of which one is the beginning of another: a is ahead of a/b, and that
	// ahead of ab.
	checkLoads(t, freeStock, "a*", "a@1.0.0;a/ab@1.0.0;a/b@1.0.0", "a@1.0.0;a/b@1.0.0;ab@1.0.0;ab/b@1.0.0", "a@1.0.0;a/a@1.0.0;a/ab@1.0.0;a/ab/a@1.0.0;ab@1.0.0;b@1.0.0")
	checkLoadsRefused(t, freeStock, "a*", "a@1.0.0;ab@1.0.0;a/b@1.0.0;ab/b@1.0.0", "ab@1.0.0;a@1.0.0;a/b@1.0.0;ab/b@1.0.0", "a@1.0.0;a/b@1.0.0;ab/b@1.0.0;ab@1.0.0")
	checkLoads(t, "a@0.0.0;abc@99.99.99;b@10.0.90", "b* abc* a*", "a@0.0.0;abc@99.99.99;b@10.0.90")
}

// But for what is wrong here each of these would be a tree of a site that needs
// b.
func wrongTrees() []string {
	return []string{
		";b@1.0.0", "b@1.0.0;", ";", ";;", "b@1.0.0;;", " b@1.0.0", "b@1.0.0 ", "b @1.0.0", "b@ 1.0.0", "b@1.0.0\n", "b@1.0.0\x00", "b@1.0.0:", "b@1.0.0,",
		"b", "b1.0.0", "b*", "b@", "@1.0.0", "@", "1.0.0", "b@@1.0.0", "b@1.0.0@", "b@1.0.0@1.0.0", "b:1.0.0", "b@=1.0.0", "b@*", "b@^1.0.0",
		"b@1", "b@1.0", "b@1.0.", "b@1..0", "b@.0.0", "b@1.0.0.0", "b@01.0.0", "b@1.00.0", "b@1.0.00", "b@1.04.0", "b@1.0.100", "b@1.0.-0", "b@+1.0.0", "b@1.0.x", "b@1,0,0", "b@1.0.0x",
		"B@1.0.0", "/b@1.0.0", "b/@1.0.0", "//b@1.0.0", "/@1.0.0", "./b@1.0.0", "bbbb@1.0.0", "\xff@1.0.0",
		"b@1.0.0;b@1.0.0", "b@1.0.0;b@1.4.0", "b@1.4.0;b@1.0.0",
		strings.Repeat(";", api.MaxPackages), strings.Repeat("b@1.0.0;", api.MaxPackages) + "b@1.0.0",
	}
}

func TestP10TextsThatAreNoTree(t *testing.T) {
	for _, needs := range []string{"b*", ""} {
		checkLoadsRefused(t, documentsStock, needs, wrongTrees()...)
		checkLoadsRefused(t, "b@0.0.0;b@1.0.0;b@1.4.0", needs, wrongTrees()...)
	}
	checkLoadsRefused(t, "", "", wrongTrees()...)
	checkLoadsRefused(t, documentsStock, "a* b^1.0.0",
		"b@1.4.0;a@1.0.0", "a/b@1.0.0;a@1.0.0;b@1.4.0", "a@1.0.0;b@1.4.0;a/b@1.0.0", "b@1.4.0;a@1.0.0;a/b@1.0.0",
		"a@1.0.0;a@1.0.0;b@1.4.0", "a@1.0.0;a/b@1.0.0;a/b@1.0.0;b@1.4.0", "a@1.0.0;a/b@1.0.0;a/b@1.4.0;b@1.4.0",
		"a@1.0.0;;b@1.4.0", "a@1.0.0,b@1.4.0", "a@1.0.0; b@1.4.0", "a@1.0.0b@1.4.0", "a@1.0.0/b@1.4.0", "a@1.0.0;b@1.4.0;;", "a@1.0.0:b@1.4.0",
		"/b@1.4.0;a@1.0.0", "a@1.0.0;a//b@1.0.0;b@1.4.0", "a@1.0.0;a/@1.0.0;b@1.4.0", "a@1.0.0;a/b/@1.0.0;b@1.4.0")
}

func TestP10WhatTheStockDoesNotHave(t *testing.T) {
	checkLoadsRefused(t, documentsStock, "b*", "b@1.5.0", "b@0.0.0", "b@3.0.0", "b@1.0.1", "b@10.0.0", "b@99.99.99")
	checkLoadsRefused(t, documentsStock, "a* b^1.0.0", "a@1.4.0;b@1.4.0", "a@2.0.0;b@1.4.0", "a@1.0.0;b@1.1.0") // 1.4.0 and 2.0.0 are versions of b
	checkLoadsRefused(t, documentsStock, "a*", "a@1.0.0;b@1.4.0;x@1.0.0", "x@1.0.0", "a@1.0.0;ab@1.4.0")
	checkLoadsRefused(t, documentsStock, "", "a@1.0.0", "x@1.0.0", "b@1.0.0")
	checkLoadsRefused(t, "", "", "a@1.0.0", "a", ";", " ", "@")
	// By this site's stock, not by that of another.
	checkLoads(t, "b@1.5.0", "b*", "b@1.5.0")
}

func TestP10FolderThatIsNoPackage(t *testing.T) {
	checkLoadsRefused(t, documentsStock, "a*", "a/b@1.4.0", "a@1.0.0;c/b@1.4.0", "a@1.0.0;a/c/b@1.4.0", "a@1.0.0;a/b/b@1.4.0", "a@1.0.0;b@1.4.0;c/b@1.0.0", "a@1.0.0;a/b/b@1.0.0;b@1.4.0", "a@1.0.0;b@1.4.0;b/a/b@1.0.0", "a@1.0.0;x/b@1.4.0")
	checkLoadsRefused(t, freeStock, "a*", "a@1.0.0;a/ab@1.0.0;ab/b@1.0.0", "a@1.0.0;a/b@1.0.0;a/b/a/ab@1.0.0;ab@1.0.0")
}

// All packages of these are in use.
func TestP10TreesThatAreNotSound(t *testing.T) {
	checkLoadsRefused(t, documentsStock, "a*", "", "a@1.0.0", "a@1.0.0;b@2.0.0", "a@1.0.0;a/b@2.0.0")
	checkLoadsRefused(t, documentsStock, "a* c*", "a@1.0.0;b@1.0.0", "b@1.0.0;c@1.0.0;d@1.0.0", "a@1.0.0;b@1.4.0;c@1.0.0;d@1.0.0", "a@1.0.0;b@1.0.0;c@1.0.0", "a@1.0.0;c@1.0.0;c/b@1.0.0;c/d@1.0.0")
	checkLoadsRefused(t, documentsStock, "b^1.0.0", "a@1.0.0;a/b@1.0.0;b@2.0.0", "b@2.0.0;b/a@1.0.0;b/b@1.0.0")
	checkLoadsRefused(t, documentsStock, "b*", "b@2.0.0", "a@1.0.0;b@2.0.0", "b@2.0.0;b/a@1.0.0")
	// What would fit lies farther out, behind one that does not.
	checkLoadsRefused(t, documentsStock, "a* b^1.0.0", "a@1.0.0;a/b@2.0.0;b@1.4.0")
	checkLoads(t, documentsStock, "a* b^1.0.0", "a@1.0.0;b@1.4.0")
}

// These are sound, but for the needs of another site.
func TestP10TreesWithPackagesThatAreNotInUse(t *testing.T) {
	checkLoadsRefused(t, documentsStock, "", "b@1.0.0", "a@1.0.0;b@1.0.0")
	checkLoadsRefused(t, documentsStock, "a*", "a@1.0.0;a/b@1.4.0;b@1.0.0", "a@1.0.0;a/b@1.4.0;a/b/b@1.0.0", "a@1.0.0;b@1.4.0;c@1.0.0;d@1.0.0;d/b@1.0.0", "a@1.0.0;b@1.4.0;b/b@1.0.0", "a@1.0.0;a/a@1.0.0;b@1.4.0")
	checkLoadsRefused(t, documentsStock, "b^1.0.0", "a@1.0.0;b@1.0.0", "b@1.0.0;b/b@1.0.0")
	// b and z need each other and themselves, and nobody else needs them.
	whole := "a@1.0.0;a/b@1.0.0;a/c@1.0.0;b@2.0.0;c@2.0.0;z@1.0.0"
	checkLoadsRefused(t, loose, "c=2.0.0 a*", whole)
	checkLoads(t, loose, "c=2.0.0 a* z*", whole)
	site := siteWith(t, loose, "c=2.0.0 a* z*")
	if e := site.Drop("z"); e != api.OK {
		t.Errorf("P7: Drop is %d", e)
	}
	checkRefused(t, site, "<"+whole, api.ErrTree)
}

// nestedAlike tells the tree of so many packages of one name and version, each
// in the folder of the one ahead.
func nestedAlike(name string, version string, count int) string {
	tree := name + "@" + version
	for i := 1; i < count; i++ {
		tree += ";" + name + strings.Repeat("/"+name, i) + "@" + version
	}
	return tree
}

func TestP10MaxPackages(t *testing.T) {
	checkLoads(t, "a@1.0.0:a*", "a*", nestedAlike("a", "1.0.0", api.MaxPackages-1), nestedAlike("a", "1.0.0", api.MaxPackages))
	checkLoadsRefused(t, "a@1.0.0:a*", "a*", nestedAlike("a", "1.0.0", api.MaxPackages+1), nestedAlike("a", "1.0.0", api.MaxPackages+2))
	stock := "a@1.0.0:a*,b*;b@1.0.0"
	checkLoads(t, stock, "a*", nestedAlike("a", "1.0.0", api.MaxPackages-1)+";b@1.0.0")
	checkLoadsRefused(t, stock, "a*", nestedAlike("a", "1.0.0", api.MaxPackages)+";b@1.0.0")
	checkLoads(t, "abc@99.99.99:abc*", "abc*", nestedAlike("abc", "99.99.99", api.MaxPackages)) // the longest text that a tree has

	// In a tree of MaxPackages the last one finds what it needs in the outermost folder.
	site := siteWith(t, stock, "a*")
	if e := site.Load(nestedAlike("a", "1.0.0", api.MaxPackages-1) + ";b@1.0.0"); e != api.OK {
		t.Errorf("P10: Load is %d", e)
	}
	deepest := "a" + strings.Repeat("/a", api.MaxPackages-2)
	checkLook(t, site, deepest, "b", "b", api.OK)
	checkLook(t, site, deepest, "a", deepest, api.OK)
	checkLook(t, site, deepest+"/a", "a", "", api.ErrPath)
}

// Texts of MaxTree bytes have more than MaxPackages packages, if they are trees
// at all.
func TestP10TextOfMaxTreeBytes(t *testing.T) {
	stock := "abc@99.99.99:abc*,zzz*;zzz@1.0.10;zzz@1.10.10"
	site := siteWith(t, stock, "abc*")
	longest := nestedAlike("abc", "99.99.99", 42) + ";zzz@1.0.10"
	longer := nestedAlike("abc", "99.99.99", 42) + ";zzz@1.10.10"
	if len(longest) != api.MaxTree || len(longer) != api.MaxTree+1 {
		t.Fatalf("%d and %d bytes", len(longest), len(longer))
	}
	checkRefused(t, site, "<"+longest, api.ErrTree)
	checkRefused(t, site, "<"+longer, api.ErrLong)
	for _, text := range []string{"x", ";", "a@1.0.0;", "/", "a/", "@", "\x00", "\xff", "1", "."} {
		all := strings.Repeat(text, api.MaxTree)
		checkRefused(t, site, "<"+all[:api.MaxTree-1], api.ErrTree)
		checkRefused(t, site, "<"+all[:api.MaxTree], api.ErrTree)
		checkRefused(t, site, "<"+all+text, api.ErrLong)
		checkRefused(t, site, "<"+all[:api.MaxTree]+"x", api.ErrLong)
		checkRefused(t, site, "<"+strings.Repeat(text, 3000000), api.ErrLong)
	}
	empty := newSite(t, "")
	checkRefused(t, empty, "<"+strings.Repeat(";", api.MaxTree), api.ErrTree)
	checkRefused(t, empty, "<"+strings.Repeat(";", api.MaxTree+1), api.ErrLong)
}

// Later calls go by the loaded tree, and not by the one that was there before.
func TestP10LoadedVersionsAreFavoured(t *testing.T) {
	for _, c := range []struct{ calls, needs, tree string }{
		{"+a* <a@1.0.0;a/b@1.0.0 +a^1.0.0", "a^1.0.0", "a@1.0.0;b@1.0.0"}, // also if it lies deeper
		{"+a* <a@1.0.0;b@1.0.0 +b*", "a*,b*", "a@1.0.0;b@1.0.0"},
		{"+a* +b^1.0.0 <a@1.0.0;b@1.0.0 -b", "a*", "a@1.0.0;b@1.0.0"},
		{"+a* +b^1.0.0 <a@1.0.0;b@1.0.0 -a", "b^1.0.0", "b@1.0.0"},
		{"+a* <a@1.0.0;b@1.0.0 !", "a*", "a@1.0.0;b@1.4.0"},
		{"+a* <a@1.0.0;b@1.0.0 ! +b*", "a*,b*", "a@1.0.0;b@1.4.0"},
		{"+a* +b^1.0.0 <a@1.0.0;a/b@1.0.0;b@1.4.0 -b", "a*", "a@1.0.0;b@1.4.0"}, // of two the greater
		{"+a* +b^1.0.0 <a@1.0.0;a/b@1.4.0;b@1.0.0 -b", "a*", "a@1.0.0;b@1.4.0"},
		{"+b* <b@1.0.0 +b*", "b*", "b@1.0.0"}, // 2.0.0 was in the tree before
		{"+b* <b@1.0.0 <b@1.4.0 +b*", "b*", "b@1.4.0"},
		{"+b* <b@1.0.0 +b>1.0.0", "b>1.0.0", "a@1.0.0;a/b@1.0.0;b@2.0.0"}, // the favoured one fits a's need alone
		{"< +a*", "a*", "a@1.0.0;b@1.4.0"},
		{"+a* -a < +a*", "a*", "a@1.0.0;b@1.4.0"},
	} {
		checkCalls(t, documentsStock, c.calls, c.needs, c.tree)
	}
}

// What was refused is not favoured, and what was favoured still is.
func TestP10RefusedTreesAreNotFavoured(t *testing.T) {
	site := checkCalls(t, documentsStock, "+b=1.0.0 +b^1.0.0", "b^1.0.0", "b@1.0.0")
	checkRefused(t, site, "<b@1.4.0;b@1.4.0", api.ErrTree)
	checkRefused(t, site, "<a@1.0.0;b@1.4.0", api.ErrTree)
	checkRefused(t, site, "<a@1.0.0;a/b@1.4.0;b@2.0.0", api.ErrTree)
	checkRefused(t, site, "<", api.ErrTree)
	if e := site.Add("b*"); e != api.OK {
		t.Errorf("P6: Add is %d", e)
	}
	checkSite(t, site, "b*", "b@1.0.0")
}

// A tree that was loaded can be one that is never built, and is gone when it is
// built anew.
func TestP10BuiltAnew(t *testing.T) {
	checkCalls(t, documentsStock, "+c* <c@1.0.0;c/b@1.0.0;c/d@1.0.0 +c=1.0.0", "c=1.0.0", "b@1.0.0;c@1.0.0;d@1.0.0")
	checkCalls(t, documentsStock, "+c* <c@1.0.0;c/b@1.0.0;c/d@1.0.0 -c", "", "")
	site := checkCalls(t, documentsStock, "+c* <c@1.0.0;c/b@1.0.0;c/d@1.0.0", "c*", "c@1.0.0;c/b@1.0.0;c/d@1.0.0")
	checkRefused(t, site, "+x*", api.ErrNoMatch)
	checkRefused(t, site, "-b", api.ErrNone)
	checkLook(t, site, "c/d", "b", "c/b", api.OK)
	checkLook(t, site, "", "b", "", api.ErrNone)
}
