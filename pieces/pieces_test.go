package pieces

import (
	"slices"
	"testing"
)

func TestSplit(t *testing.T) {
	for _, c := range []struct {
		text string
		want []string
	}{
		{"", []string{""}},
		{"a", []string{"a"}},
		{"a|b", []string{"a", "b"}},
		{"ab||c", []string{"ab", "", "c"}},
		{"|", []string{"", ""}},
		{"|a", []string{"", "a"}},
		{"a|", []string{"a", ""}},
		{"a&b", []string{"a&b"}},
		{"\x00|\xff", []string{"\x00", "\xff"}},
	} {
		if got := Split(c.text, '|'); !slices.Equal(got, c.want) {
			t.Errorf("Split(%q) = %q, want %q", c.text, got, c.want)
		}
	}
}
