package building

import (
	"testing"

	"hoist/api"
	"hoist/needs"
	"hoist/stocks"
	"hoist/trees"
)

func checkBuild(t *testing.T, stock string, site string, favoured trees.Tree, want string, wantErr api.Errno) trees.Tree {
	t.Helper()
	s, e := stocks.Parse(stock)
	if e != api.OK {
		t.Fatalf("%q is no stock: %d", stock, e)
	}
	list, ok := needs.ParseList(site)
	if !ok {
		t.Fatalf("%q is no needs", site)
	}
	tree, e := Build(s, list, favoured)
	if tree.Text() != want || e != wantErr {
		t.Errorf("for %q: %q, %d, want %q, %d", site, tree.Text(), e, want, wantErr)
	}
	return tree
}

const stock = "a@1.0.0:b^1.0.0;b@1.0.0;b@1.4.0;b@2.0.0:a*;c@1.0.0:b^1.0.0,d*;d@1.0.0:b=1.0.0"

func TestBuild(t *testing.T) {
	none := trees.Tree{}
	checkBuild(t, stock, "a*", none, "a@1.0.0;b@1.4.0", api.OK)
	checkBuild(t, stock, "b*", none, "a@1.0.0;a/b@1.4.0;b@2.0.0", api.OK)
	checkBuild(t, stock, "b^2.0.0,c*", none, "a@1.0.0;a/b@1.4.0;b@2.0.0;c@1.0.0;c/b@1.4.0;d@1.0.0;d/b@1.0.0", api.OK)
	low := checkBuild(t, stock, "b=1.0.0", none, "b@1.0.0", api.OK)
	checkBuild(t, stock, "b*", low, "b@1.0.0", api.OK)
	checkBuild(t, stock, "b>1.0.0&<2.0.0", low, "b@1.4.0", api.OK)
	checkBuild(t, stock, "b^3.0.0", low, "", api.ErrNoMatch)
	checkBuild(t, "a@1.0.0:a=2.0.0;a@2.0.0:a=1.0.0", "a*", none, "", api.ErrFull)
}
