package needs

import (
	"strings"
	"testing"

	"hoist/versions"
)

func parsed(t *testing.T, text string) Need {
	t.Helper()
	n, ok := Parse(text)
	if !ok {
		t.Fatalf("%q is no need", text)
	}
	return n
}

func parsedList(t *testing.T, text string) []Need {
	t.Helper()
	list, ok := ParseList(text)
	if !ok {
		t.Fatalf("%q is no needs", text)
	}
	return list
}

func checkList(t *testing.T, list []Need, want string) {
	t.Helper()
	if got := Text(list); got != want {
		t.Errorf("the list is %q, want %q", got, want)
	}
}

func TestParse(t *testing.T) {
	n := parsed(t, "ab>=1.0.0&<2.0.0")
	low, _ := versions.Parse("1.0.0")
	high, _ := versions.Parse("2.0.0")
	if n.Name != "ab" || !n.Range.Fits(low) || n.Range.Fits(high) {
		t.Errorf("the need is %v", n)
	}
	for _, text := range []string{"", "a", "*", "abcd*", "a**", "a*,b*", "A*", "a=1.0", " a*", "a* ", strings.Repeat("a", 1000000), "a" + strings.Repeat("*", 1000000)} {
		if n, ok := Parse(text); ok {
			t.Errorf("%.20q is no need: %v", text, n)
		}
	}
}

func TestParseList(t *testing.T) {
	checkList(t, parsedList(t, "a*"), "a*")
	checkList(t, parsedList(t, "b*,a=1.0.0,ab*"), "a=1.0.0,ab*,b*")
	checkList(t, parsedList(t, "f*,e*,d*,c*,b*,a*"), "a*,b*,c*,d*,e*,f*")
	checkList(t, parsedList(t, "b*,a*,b=1.0.0"), "a*,b*,b=1.0.0")
	for _, text := range []string{"", ",", "a*,", ",a*", "a*,,b*", "a*,b", "a,b*", "a*;b*", "a*,b*,c*,d*,e*,f*,g*"} {
		if list, ok := ParseList(text); ok {
			t.Errorf("%q is no needs: %v", text, list)
		}
	}
}

func TestWithAndWithout(t *testing.T) {
	list := parsedList(t, "b*,d*")
	for _, c := range []struct{ added, want string }{
		{"a*", "a*,b*,d*"}, {"c*", "b*,c*,d*"}, {"bb*", "b*,bb*,d*"}, {"e*", "b*,d*,e*"},
	} {
		checkList(t, With(list, parsed(t, c.added)), c.want)
		checkList(t, list, "b*,d*") // as it was
	}
	checkList(t, With(nil, parsed(t, "a*")), "a*")
	checkList(t, Without(list, "b"), "d*")
	checkList(t, Without(list, "d"), "b*")
	checkList(t, Without(list, "c"), "b*,d*")
	checkList(t, Without(list, ""), "b*,d*")
	checkList(t, list, "b*,d*")
}

func TestHas(t *testing.T) {
	list := parsedList(t, "b*,dd*")
	if !Has(list, "b") || !Has(list, "dd") || Has(list, "d") || Has(list, "") || Has(nil, "b") {
		t.Error("Has is wrong")
	}
}

func TestHasTwice(t *testing.T) {
	for _, c := range []struct {
		text string
		want bool
	}{
		{"a*", false}, {"a*,b*", false}, {"a*,aa*", false}, {"a*,a*", true}, {"a*,b*,a=1.0.0", true}, {"c*,b*,a*,c*", true},
	} {
		if got := HasTwice(parsedList(t, c.text)); got != c.want {
			t.Errorf("HasTwice(%q) is %v", c.text, got)
		}
	}
	if HasTwice(nil) {
		t.Error("HasTwice(nil)")
	}
}
