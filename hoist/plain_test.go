package hoist

import (
	"fmt"
	"math/rand"
	"strings"
	"testing"

	"hoist/api"
)

// The document's words on ranges, followed word by word and slowly: whether a
// condition holds is asked of each version's three numbers, for each version.

type plainVersion [3]int

func (v plainVersion) String() string { return fmt.Sprintf("%d.%d.%d", v[0], v[1], v[2]) }

func (v plainVersion) below(other plainVersion) bool {
	for i := range v {
		if v[i] != other[i] {
			return v[i] < other[i]
		}
	}
	return false
}

type plainCondition struct {
	sign string
	v    plainVersion
}

func (c plainCondition) String() string {
	if c.sign == "*" {
		return "*"
	}
	return c.sign + c.v.String()
}

func (c plainCondition) holds(v plainVersion) bool {
	switch c.sign {
	case "=":
		return v == c.v
	case ">":
		return c.v.below(v)
	case ">=":
		return !v.below(c.v)
	case "<":
		return v.below(c.v)
	case "<=":
		return !c.v.below(v)
	case "~":
		return !v.below(c.v) && v[0] == c.v[0] && v[1] == c.v[1]
	case "^":
		if c.v[0] != 0 {
			return !v.below(c.v) && v[0] == c.v[0]
		}
		if c.v[1] != 0 {
			return !v.below(c.v) && v[0] == c.v[0] && v[1] == c.v[1]
		}
		return v == c.v
	}
	return true
}

type plainRange [][]plainCondition

func (r plainRange) String() string {
	var alternatives []string
	for _, conditions := range r {
		var texts []string
		for _, c := range conditions {
			texts = append(texts, c.String())
		}
		alternatives = append(alternatives, strings.Join(texts, "&"))
	}
	return strings.Join(alternatives, "|")
}

func (r plainRange) fits(v plainVersion) bool {
	for _, conditions := range r {
		all := true
		for _, c := range conditions {
			all = all && c.holds(v)
		}
		if all {
			return true
		}
	}
	return false
}

// Few numbers, and those near the edges, so that versions often coincide.
var someNumbers = []int{0, 0, 1, 2, 98, 99}

func someVersion(random *rand.Rand) plainVersion {
	var v plainVersion
	for i := range v {
		v[i] = someNumbers[random.Intn(len(someNumbers))]
	}
	return v
}

func someRange(random *rand.Rand) plainRange {
	signs := []string{"*", "=", ">", ">=", "<", "<=", "^", "~"}
	for {
		var r plainRange
		for range 1 + random.Intn(3) {
			var conditions []plainCondition
			for range 1 + random.Intn(3) {
				conditions = append(conditions, plainCondition{signs[random.Intn(len(signs))], someVersion(random)})
			}
			r = append(r, conditions)
		}
		if len(r.String()) <= api.MaxRange {
			return r
		}
	}
}

func TestP3AsTheDocumentSays(t *testing.T) {
	random := rand.New(rand.NewSource(3))
	for range 20000 {
		r := someRange(random)
		v := someVersion(random)
		checkFits(t, r.String(), v.String(), r.fits(v), api.OK)
	}
}

// lowestOfBoth tells the lowest of all versions that fits both.
func lowestOfBoth(one, other plainRange) (plainVersion, bool) {
	for first := 0; first <= 99; first++ {
		for second := 0; second <= 99; second++ {
			for third := 0; third <= 99; third++ {
				v := plainVersion{first, second, third}
				if one.fits(v) && other.fits(v) {
					return v, true
				}
			}
		}
	}
	return plainVersion{}, false
}

func TestP4AsTheDocumentSays(t *testing.T) {
	random := rand.New(rand.NewSource(4))
	for range 100 {
		one := someRange(random)
		other := someRange(random)
		_, met := lowestOfBoth(one, other)
		checkMeet(t, one.String(), other.String(), met, api.OK)
		if v, found := lowestOfBoth(one, one); found {
			checkLowest(t, one.String(), v.String(), api.OK)
		} else {
			checkLowest(t, one.String(), "", api.ErrNone)
		}
	}
}

// P1: whatever the strings are, the calls end, and with an error the other
// result is false or empty.
func TestP1AnyStrings(t *testing.T) {
	random := rand.New(rand.NewSource(1))
	letters := "*=><^~|&.0199\x00\xff a"
	text := func() string {
		var bytes []byte
		for range random.Intn(14) {
			bytes = append(bytes, letters[random.Intn(len(letters))])
		}
		return string(bytes)
	}
	for range 200000 {
		checkAnswers(t, text(), text())
	}
	for _, letter := range letters {
		long := strings.Repeat(string(letter), 1000000)
		checkAnswers(t, long, "1.0.0")
		checkAnswers(t, "*", long)
		checkAnswers(t, long, long)
	}
}

func checkAnswers(t *testing.T, one, other string) {
	t.Helper()
	fits, e := Fits(one, other)
	if e != api.OK && (fits || e != api.ErrRange && e != api.ErrVersion) {
		t.Errorf("P1: Fits(%.40q, %.40q) = %v, %d", one, other, fits, e)
	}
	met, e := Meet(one, other)
	if e != api.OK && (met || e != api.ErrRange) {
		t.Errorf("P1: Meet(%.40q, %.40q) = %v, %d", one, other, met, e)
	}
	lowest, e := Lowest(one)
	if (e == api.OK) != (lowest != "") || e != api.OK && e != api.ErrRange && e != api.ErrNone {
		t.Errorf("P1: Lowest(%.40q) = %q, %d", one, lowest, e)
	}
}
