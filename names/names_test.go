package names

import (
	"strings"
	"testing"
)

func TestIsName(t *testing.T) {
	for _, text := range []string{"a", "z", "az", "aaa", "zzz", "abc"} {
		if !IsName(text) {
			t.Errorf("%q is a name", text)
		}
	}
	for _, text := range []string{"", "abcd", "A", "aB", "a1", "1", "a ", " a", "a*", "*", "`", "{", "a{", "a/b", "é", "\x00", "a\x00", "\xff", strings.Repeat("a", 1000000)} {
		if IsName(text) {
			t.Errorf("%.20q is no name", text)
		}
	}
}

func TestLettersAhead(t *testing.T) {
	for _, c := range []struct {
		text string
		want int
	}{
		{"", 0}, {"*", 0}, {"a*", 1}, {"abcd*a", 4}, {"az", 2}, {"`a", 0}, {"{a", 0}, {"Za", 0}, {strings.Repeat("a", 1000000), 1000000},
	} {
		if got := LettersAhead(c.text); got != c.want {
			t.Errorf("LettersAhead(%.20q) = %d, want %d", c.text, got, c.want)
		}
	}
}
