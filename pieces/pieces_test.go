package pieces

import (
	"slices"
	"testing"
)

func TestSplit(t *testing.T) {
	for _, c := range []struct {
		text string
		want []string
	}{
		{"", []string{""}},
		{"a", []string{"a"}},
		{"a|b", []string{"a", "b"}},
		{"ab||c", []string{"ab", "", "c"}},
		{"|", []string{"", ""}},
		{"|a", []string{"", "a"}},
		{"a|", []string{"a", ""}},
		{"a&b", []string{"a&b"}},
		{"\x00|\xff", []string{"\x00", "\xff"}},
	} {
		if got := Split(c.text, '|'); !slices.Equal(got, c.want) {
			t.Errorf("Split(%q) = %q, want %q", c.text, got, c.want)
		}
	}
}

func TestCut(t *testing.T) {
	for _, c := range []struct {
		text, ahead, behind string
		found               bool
	}{
		{"", "", "", false},
		{"ab", "ab", "", false},
		{"a@b", "a", "b", true},
		{"@", "", "", true},
		{"a@", "a", "", true},
		{"@b", "", "b", true},
		{"a@b@c", "a", "b@c", true},
		{"@@", "", "@", true},
	} {
		ahead, behind, found := Cut(c.text, '@')
		if ahead != c.ahead || behind != c.behind || found != c.found {
			t.Errorf("Cut(%q) = %q, %q, %v", c.text, ahead, behind, found)
		}
	}
}

func TestJoin(t *testing.T) {
	for _, c := range []struct {
		list []string
		want string
	}{
		{nil, ""},
		{[]string{"a"}, "a"},
		{[]string{"a", "bc", "d"}, "a, bc, d"},
		{[]string{"", ""}, ", "},
	} {
		if got := Join(c.list, ", "); got != c.want {
			t.Errorf("Join(%q) = %q, want %q", c.list, got, c.want)
		}
	}
}
