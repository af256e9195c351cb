package api

import "testing"

func TestErrorsHaveTheDocumentsNumbers(t *testing.T) {
	for number, e := range []Errno{OK, ErrRange, ErrVersion, ErrNone, ErrLong, ErrText, ErrTwice, ErrMany, ErrNoMatch, ErrFull, ErrPath, ErrName, ErrTree} {
		if int(e) != number {
			t.Errorf("the error at %d is %d", number, e)
		}
	}
}

func TestLimitsAreTheDocuments(t *testing.T) {
	for _, c := range []struct {
		name      string
		got, want int
	}{
		{"MaxPart", MaxPart, 99}, {"MaxRange", MaxRange, 60}, {"MaxStock", MaxStock, 4000}, {"MaxEntries", MaxEntries, 40},
		{"MaxNeeds", MaxNeeds, 6}, {"MaxPackages", MaxPackages, 40}, {"MaxTree", MaxTree, 4000},
	} {
		if c.got != c.want {
			t.Errorf("%s is %d, want %d", c.name, c.got, c.want)
		}
	}
}
