package versions

import (
	"fmt"
	"strings"
	"testing"
)

// All versions in their order: so each place, text and part is checked once.
func TestAllVersions(t *testing.T) {
	place := Lowest
	for first := 0; first <= 99; first++ {
		for second := 0; second <= 99; second++ {
			for third := 0; third <= 99; third++ {
				text := fmt.Sprintf("%d.%d.%d", first, second, third)
				v, ok := Parse(text)
				if !ok || v != place {
					t.Fatalf("Parse(%q) = %d, %v, want %d", text, v, ok, place)
				}
				if v.Text() != text {
					t.Fatalf("the text of %q is %q", text, v.Text())
				}
				if v.First() != first || v.Second() != second || v.Third() != third {
					t.Fatalf("the numbers of %q are %d, %d, %d", text, v.First(), v.Second(), v.Third())
				}
				place++
			}
		}
	}
	if place != Highest+1 {
		t.Errorf("the highest is %d, want %d", Highest, place-1)
	}
}

func TestHighestOf(t *testing.T) {
	for _, c := range []struct{ text, ofFirst, ofSecond string }{
		{"0.0.0", "0.99.99", "0.0.99"},
		{"1.2.3", "1.99.99", "1.2.99"},
		{"1.99.99", "1.99.99", "1.99.99"},
		{"99.0.0", "99.99.99", "99.0.99"},
		{"99.99.99", "99.99.99", "99.99.99"},
	} {
		v, ok := Parse(c.text)
		if !ok {
			t.Fatalf("%q is no version", c.text)
		}
		if got := v.HighestOfFirst().Text(); got != c.ofFirst {
			t.Errorf("the highest of the first number of %s is %s", c.text, got)
		}
		if got := v.HighestOfSecond().Text(); got != c.ofSecond {
			t.Errorf("the highest of the second number of %s is %s", c.text, got)
		}
	}
}

func TestNoVersion(t *testing.T) {
	for _, text := range []string{
		"", ".", "..", "...", "1", "1.0", "1.0.", ".1.0", "1..0", "1.0.0.", ".1.0.0", "1.0.0.0",
		"100.0.0", "0.100.0", "0.0.100", "01.0.0", "0.01.0", "0.0.01", "00.0.0", "0.0.00",
		"+1.0.0", "-1.0.0", "1.-0.0", " 1.0.0", "1.0.0 ", "1.0.0\n", "1.0.0\x00", "1.0.a", "1.0./", "1.0.:", "1,0,0", "v1.0.0", "=1.0.0", "*",
		"1.0.18446744073709551616", "\xff.0.0", "１.0.0",
		strings.Repeat("9", 1000000), strings.Repeat(".", 1000000), "1.0.0" + strings.Repeat("0", 1000000),
	} {
		if v, ok := Parse(text); ok || v != 0 {
			t.Errorf("Parse(%.40q) = %d, %v", text, v, ok)
		}
	}
}
