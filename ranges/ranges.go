// Package ranges: ranges of versions.
package ranges

import (
	"hoist/api"
	"hoist/pieces"
	"hoist/versions"
)

// Every condition holds of the versions from one to another, so what all
// conditions of an alternative hold of is a span too, and a range is no more
// than the spans of its alternatives.

// span has the versions from low to high, both of them with it; none, if low
// is above high.
type span struct {
	low  versions.Version
	high versions.Version
}

// Range has the versions that lie in one of its spans.
type Range struct {
	spans []span
}

// Parse tells the range that a text is, and whether it is one.
func Parse(text string) (Range, bool) {
	if len(text) > api.MaxRange {
		return Range{}, false
	}
	var spans []span
	for _, alternative := range pieces.Split(text, '|') {
		all, ok := parseAlternative(alternative)
		if !ok {
			return Range{}, false
		}
		spans = append(spans, all)
	}
	return Range{spans: spans}, true
}

func parseAlternative(text string) (span, bool) {
	all := every()
	for _, condition := range pieces.Split(text, '&') {
		one, ok := parseCondition(condition)
		if !ok {
			return span{}, false
		}
		all = overlap(all, one)
	}
	return all, true
}

func parseCondition(text string) (span, bool) {
	if text == "*" {
		return every(), true
	}
	length := signLength(text)
	v, ok := versions.Parse(text[length:])
	if !ok {
		return span{}, false
	}
	return spanOf(text[:length], v)
}

// signLength tells how many bytes stand ahead of the first digit.
func signLength(text string) int {
	for i := 0; i < len(text); i++ {
		if text[i] >= '0' && text[i] <= '9' {
			return i
		}
	}
	return len(text)
}

// spanOf tells of which versions the condition holds that has this sign and
// this version, and whether there is such a sign.
func spanOf(sign string, v versions.Version) (span, bool) {
	switch sign {
	case "=":
		return span{low: v, high: v}, true
	case ">":
		return span{low: v + 1, high: versions.Highest}, true
	case ">=":
		return span{low: v, high: versions.Highest}, true
	case "<":
		return span{low: versions.Lowest, high: v - 1}, true
	case "<=":
		return span{low: versions.Lowest, high: v}, true
	case "^":
		return span{low: v, high: highestOfCaret(v)}, true
	case "~":
		return span{low: v, high: v.HighestOfSecond()}, true
	}
	return span{}, false
}

func highestOfCaret(v versions.Version) versions.Version {
	if v.First() != 0 {
		return v.HighestOfFirst()
	}
	if v.Second() != 0 {
		return v.HighestOfSecond()
	}
	return v
}

func every() span {
	return span{low: versions.Lowest, high: versions.Highest}
}

func overlap(one span, other span) span {
	both := one
	if other.low > both.low {
		both.low = other.low
	}
	if other.high < both.high {
		both.high = other.high
	}
	return both
}

func (s span) isEmpty() bool { return s.low > s.high }

// Fits tells whether a version fits the range.
func (r Range) Fits(v versions.Version) bool {
	for _, s := range r.spans {
		if s.low <= v && v <= s.high {
			return true
		}
	}
	return false
}

// Lowest tells the lowest version that fits the range, and whether one does.
func (r Range) Lowest() (versions.Version, bool) {
	lowest := versions.Lowest
	found := false
	for _, s := range r.spans {
		if s.isEmpty() {
			continue
		}
		if !found || s.low < lowest {
			lowest = s.low
		}
		found = true
	}
	return lowest, found
}

// Meet tells whether a version fits both ranges.
func Meet(one Range, other Range) bool {
	for _, first := range one.spans {
		for _, second := range other.spans {
			both := overlap(first, second)
			if !both.isEmpty() {
				return true
			}
		}
	}
	return false
}
