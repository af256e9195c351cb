// Package versions: versions, and their text.
package versions

import (
	"strconv"

	"hoist/api"
	"hoist/pieces"
)

// Version is a version's place among all versions: 0.0.0 is at 0. So versions
// are ordered as ints are, and the one right above is one more, also where
// the last numbers are MaxPart.
type Version int

const (
	perPart   = api.MaxPart + 1     // values of one number
	perSecond = perPart             // versions that share their first and second number
	perFirst  = perPart * perSecond // versions that share their first number
	count     = perPart * perFirst
	longest   = len("99.99.99")
)

const (
	Lowest  Version = 0
	Highest Version = count - 1
)

// Parse tells the version that a text is, and whether it is one.
func Parse(text string) (Version, bool) {
	if len(text) > longest {
		return 0, false // ahead of the splitting, as the text can be of any length
	}
	numbers := pieces.Split(text, '.')
	if len(numbers) != 3 {
		return 0, false
	}
	place := 0
	for _, number := range numbers {
		part, ok := parsePart(number)
		if !ok {
			return 0, false
		}
		place = place*perPart + part
	}
	return Version(place), true
}

// parsePart tells the number from 0 to MaxPart that a text is.
func parsePart(text string) (int, bool) {
	if text == "" {
		return 0, false
	}
	if text[0] == '0' && len(text) > 1 {
		return 0, false
	}
	part := 0
	for i := 0; i < len(text); i++ {
		if text[i] < '0' || text[i] > '9' {
			return 0, false
		}
		part = part*10 + int(text[i]-'0')
		if part > api.MaxPart {
			return 0, false // at once, so that it never grows past an int
		}
	}
	return part, true
}

// First tells a version's first number.
func (v Version) First() int { return int(v / perFirst) }

// Second tells a version's second number.
func (v Version) Second() int { return int(v / perSecond % perPart) }

// Third tells a version's third number.
func (v Version) Third() int { return int(v % perSecond) }

// HighestOfFirst tells the highest version with the first number of this one.
func (v Version) HighestOfFirst() Version { return v - v%perFirst + perFirst - 1 }

// HighestOfSecond tells the highest version with the first and the second
// number of this one.
func (v Version) HighestOfSecond() Version { return v - v%perSecond + perSecond - 1 }

// Text tells a version as text.
func (v Version) Text() string {
	first := strconv.Itoa(v.First())
	second := strconv.Itoa(v.Second())
	third := strconv.Itoa(v.Third())
	return first + "." + second + "." + third
}
