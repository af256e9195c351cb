package ranges

import (
	"strings"
	"testing"

	"hoist/versions"
)

func at(t *testing.T, text string) versions.Version {
	t.Helper()
	v, ok := versions.Parse(text)
	if !ok {
		t.Fatalf("%q is no version", text)
	}
	return v
}

func parsed(t *testing.T, text string) Range {
	t.Helper()
	r, ok := Parse(text)
	if !ok {
		t.Fatalf("%q is no range", text)
	}
	return r
}

// Each condition by the lowest and the highest version that it holds of: those two
// fit, and their neighbours do not.
func TestConditionsEnds(t *testing.T) {
	for _, c := range []struct{ text, low, high string }{
		{"*", "0.0.0", "99.99.99"},
		{"=1.2.3", "1.2.3", "1.2.3"},
		{">1.2.3", "1.2.4", "99.99.99"}, {">1.2.99", "1.3.0", "99.99.99"}, {">1.99.99", "2.0.0", "99.99.99"},
		{">=1.2.3", "1.2.3", "99.99.99"},
		{"<1.2.3", "0.0.0", "1.2.2"}, {"<1.2.0", "0.0.0", "1.1.99"}, {"<1.0.0", "0.0.0", "0.99.99"},
		{"<=1.2.3", "0.0.0", "1.2.3"},
		{"^1.2.3", "1.2.3", "1.99.99"}, {"^1.0.0", "1.0.0", "1.99.99"}, {"^99.0.1", "99.0.1", "99.99.99"},
		{"^0.2.3", "0.2.3", "0.2.99"}, {"^0.99.0", "0.99.0", "0.99.99"},
		{"^0.0.3", "0.0.3", "0.0.3"}, {"^0.0.0", "0.0.0", "0.0.0"},
		{"~1.2.3", "1.2.3", "1.2.99"}, {"~1.0.0", "1.0.0", "1.0.99"}, {"~0.0.3", "0.0.3", "0.0.99"}, {"~0.0.0", "0.0.0", "0.0.99"}, {"~99.99.99", "99.99.99", "99.99.99"},
	} {
		r := parsed(t, c.text)
		low := at(t, c.low)
		high := at(t, c.high)
		if !r.Fits(low) || !r.Fits(high) {
			t.Errorf("%s should go from %s to %s", c.text, c.low, c.high)
		}
		if low > versions.Lowest && r.Fits(low-1) {
			t.Errorf("%s holds of %s", c.text, (low - 1).Text())
		}
		if high < versions.Highest && r.Fits(high+1) {
			t.Errorf("%s holds of %s", c.text, (high + 1).Text())
		}
		if lowest, ok := r.Lowest(); !ok || lowest != low {
			t.Errorf("the lowest of %s is %s, %v", c.text, lowest.Text(), ok)
		}
	}
}

func TestRangesThatNoVersionFits(t *testing.T) {
	all := parsed(t, "*")
	for _, text := range []string{"<0.0.0", ">99.99.99", ">1.0.0&<1.0.1", ">0.99.99&<1.0.0", "=1.0.0&=2.0.0", "^1.0.0&^2.0.0", "<0.0.0|>99.99.99"} {
		r := parsed(t, text)
		if v, ok := r.Lowest(); ok {
			t.Errorf("the lowest of %s is %s", text, v.Text())
		}
		if Meet(r, all) || Meet(all, r) || Meet(r, r) {
			t.Errorf("a version fits %s", text)
		}
		for v := versions.Lowest; v <= versions.Highest; v++ {
			if r.Fits(v) {
				t.Fatalf("%s fits %s", v.Text(), text)
			}
		}
	}
}

func TestLengthOfARange(t *testing.T) {
	longest := strings.Repeat("*&", 27) + "=1.0.0"
	if len(longest) != 60 {
		t.Fatalf("%d bytes", len(longest))
	}
	r := parsed(t, longest)
	if !r.Fits(at(t, "1.0.0")) || r.Fits(at(t, "1.0.1")) {
		t.Errorf("%s is not read to its end", longest)
	}
	if _, ok := Parse(longest + "0"); ok {
		t.Errorf("a range of 61 bytes is taken")
	}
}

func TestNoRange(t *testing.T) {
	for _, text := range []string{"", "*|", "&*", "**", "1.0.0", ">", "<>1.0.0", "=>1.0.0", "*1.0.0", "^*", "=1.0.100", "=01.0.0", "=1.0.0&", "\xff1.0.0"} {
		if r, ok := Parse(text); ok || r.spans != nil {
			t.Errorf("Parse(%q) = %v, %v", text, r, ok)
		}
	}
}
