package hoist

import (
	"strings"
	"testing"

	"hoist/api"
)

func checkFits(t *testing.T, rng string, version string, want bool, wantErr api.Errno) {
	t.Helper()
	if got, e := Fits(rng, version); got != want || e != wantErr {
		t.Errorf("P3: Fits(%.70q, %.40q) = %v, %d, want %v, %d", rng, version, got, e, want, wantErr)
	}
}

func checkMeet(t *testing.T, one string, other string, want bool, wantErr api.Errno) {
	t.Helper()
	if got, e := Meet(one, other); got != want || e != wantErr {
		t.Errorf("P4: Meet(%.70q, %.70q) = %v, %d, want %v, %d", one, other, got, e, want, wantErr)
	}
}

func checkLowest(t *testing.T, rng string, want string, wantErr api.Errno) {
	t.Helper()
	if got, e := Lowest(rng); got != want || e != wantErr {
		t.Errorf("P4: Lowest(%.70q) = %q, %d, want %q, %d", rng, got, e, want, wantErr)
	}
}

func TestDocumentsExamplesOfRanges(t *testing.T) {
	checkFits(t, "^1.2.0", "1.9.9", true, api.OK)
	checkFits(t, "^1.2.0", "2.0.0", false, api.OK)
	checkFits(t, "^0.2.3", "0.3.0", false, api.OK)
	checkFits(t, "^0.0.3", "0.0.4", false, api.OK)
	checkFits(t, "~1.2.3", "1.2.99", true, api.OK)
	checkFits(t, "~0.0.3", "0.0.4", true, api.OK)
	checkFits(t, "<1.0.0|>=3.0.0&<4.0.0", "3.5.0", true, api.OK)
	checkFits(t, "", "1.0.0", false, api.ErrRange)
	checkFits(t, "*", "1.0", false, api.ErrVersion)
	checkMeet(t, "<1.0.0", ">=1.0.0", false, api.OK)
	checkMeet(t, ">1.0.0", "<1.0.2", true, api.OK)
	checkMeet(t, ">1.0.0&<1.0.1", "*", false, api.OK)
	checkMeet(t, "<0.0.0", "*", false, api.OK)
	checkMeet(t, ">0.99.99", "<1.0.0", false, api.OK)
	checkLowest(t, ">1.0.99", "1.1.0", api.OK)
	checkLowest(t, "~2.1.3|=1.0.0", "1.0.0", api.OK)
	checkLowest(t, ">99.99.99", "", api.ErrNone)
}

// Texts that are no ranges, whatever stands in the other argument.
func wrongRanges() []string {
	return []string{
		"", " ", "|", "&", "*|", "|*", "*&", "&*", "*||*", "*&&*", "*|&*", "**", "* ", " *",
		"1.0.0", "=", "==1.0.0", "=>1.0.0", "=<1.0.0", "<>1.0.0", "!=1.0.0", "> 1.0.0", ">=1.0", ">=1", "^", "^*", "~*", "*=1.0.0", "*1.0.0", "^~1.0.0", "^=1.0.0",
		"=1.0.100", "=1.100.0", "=100.0.0", "=1.0.01", "=01.0.0", "=00.0.0", "=1.0.0.", "=1.0.0.0", "=1.0.0=1.0.0", "=1.0.0,=2.0.0", "=1.0.0 ", "=1.0.-1", "=1.0.x",
		"*|<0.0.0|x", "=1.0.0&=2.0.0&", "a", "a*", "\x00", "\xff", "*\xff", "≥1.0.0",
		">18446744073709551616.0.0",
		strings.Repeat("*|", 30) + "*", // 61 bytes
		strings.Repeat("*", 3000000), strings.Repeat("*|", 3000000) + "*", strings.Repeat("|", 3000000), strings.Repeat("=1.0.0&", 1000000) + "*", "=" + strings.Repeat("1", 3000000),
	}
}

func wrongVersions() []string {
	return []string{
		"", ".", "..", "1", "1.0", "1.0.", ".1.0", "1..0", "1.0.0.0", "1.0.0.", "1.0.100", "1.100.0", "100.0.0", "1.0.01", "01.0.0", "00.0.0", "1.0.00",
		" 1.0.0", "1.0.0 ", "v1.0.0", "=1.0.0", "*", "1.0.-1", "1.0.+1", "1,0,0", "1.0.a", "1.0./", "1.0.:", "1.0.0\x00", "\xff", "1.0.18446744073709551616",
		strings.Repeat("1", 3000000), strings.Repeat(".", 3000000), strings.Repeat("1.", 3000000), "1.0.0" + strings.Repeat("0", 3000000),
	}
}

func TestP3WrongInputs(t *testing.T) {
	for _, text := range wrongRanges() {
		checkFits(t, text, "1.0.0", false, api.ErrRange)
	}
	for _, text := range wrongVersions() {
		checkFits(t, "*", text, false, api.ErrVersion)
		checkFits(t, "<0.0.0", text, false, api.ErrVersion)
	}
}

// P1: where both are wrong, the error that is named first.
func TestP1FirstErrorIsAnswered(t *testing.T) {
	for _, text := range wrongRanges() {
		checkFits(t, text, "", false, api.ErrRange)
		checkFits(t, text, "1.0", false, api.ErrRange)
	}
	for _, text := range wrongVersions() {
		checkFits(t, "", text, false, api.ErrRange)
	}
}

func TestP4WrongInputs(t *testing.T) {
	for _, text := range wrongRanges() {
		checkMeet(t, text, "*", false, api.ErrRange)
		checkMeet(t, "*", text, false, api.ErrRange)
		checkMeet(t, text, text, false, api.ErrRange)
		checkMeet(t, "<0.0.0", text, false, api.ErrRange)
		checkLowest(t, text, "", api.ErrRange)
	}
}

// The end of each text counts: a reader that stops at or ahead of the 60th byte
// answers otherwise.
func TestRangeOfMaxRangeBytes(t *testing.T) {
	longest := strings.Repeat("<0.0.0|", 7) + "*&=98.99.99"
	if len(longest) != api.MaxRange {
		t.Fatalf("%d bytes", len(longest))
	}
	checkFits(t, longest, "98.99.99", true, api.OK)
	checkFits(t, longest, "98.99.9", false, api.OK)
	checkMeet(t, longest, longest, true, api.OK)
	checkMeet(t, longest, "<98.99.99", false, api.OK)
	checkLowest(t, longest, "98.99.99", api.OK)

	tooLong := strings.Repeat("*|", 27) + "=1.0.10"
	if len(tooLong) != api.MaxRange+1 {
		t.Fatalf("%d bytes", len(tooLong))
	}
	checkFits(t, tooLong, "1.0.1", false, api.ErrRange)
	checkMeet(t, tooLong, "*", false, api.ErrRange)
	checkMeet(t, "*", tooLong, false, api.ErrRange)
	checkLowest(t, tooLong, "", api.ErrRange)
}

func TestNumberOfMaxPart(t *testing.T) {
	for _, c := range []struct{ most, above string }{
		{"99.0.0", "100.0.0"}, {"0.99.0", "0.100.0"}, {"0.0.99", "0.0.100"},
	} {
		checkFits(t, "="+c.most, c.most, true, api.OK)
		checkFits(t, "*", c.above, false, api.ErrVersion)
		checkFits(t, "="+c.above, c.most, false, api.ErrRange)
		checkLowest(t, "="+c.most, c.most, api.OK)
		checkLowest(t, "="+c.above, "", api.ErrRange)
		checkMeet(t, "="+c.most, ">="+c.most, true, api.OK)
		checkMeet(t, "*", "<"+c.above, false, api.ErrRange)
	}
}

func TestZeroAhead(t *testing.T) {
	checkFits(t, "=0.0.0", "0.0.0", true, api.OK)
	checkFits(t, "=10.20.30", "10.20.30", true, api.OK)
	for _, text := range []string{"00.0.0", "0.00.0", "0.0.00", "01.0.0", "0.01.0", "0.0.01", "010.0.0"} {
		checkFits(t, "*", text, false, api.ErrVersion)
		checkFits(t, ">="+text, "0.0.0", false, api.ErrRange)
		checkMeet(t, "*", "*|="+text, false, api.ErrRange)
		checkLowest(t, "*&="+text, "", api.ErrRange)
	}
}

func TestP4VersionRightAbove(t *testing.T) {
	for _, c := range []struct{ version, above string }{
		{"0.0.0", "0.0.1"}, {"1.2.3", "1.2.4"}, {"1.0.9", "1.0.10"}, {"1.0.98", "1.0.99"},
		{"1.0.99", "1.1.0"}, {"0.98.99", "0.99.0"}, {"0.99.99", "1.0.0"}, {"98.99.99", "99.0.0"}, {"99.99.98", "99.99.99"},
	} {
		checkLowest(t, ">"+c.version, c.above, api.OK)
		checkMeet(t, ">"+c.version, "<"+c.above, false, api.OK)
		checkMeet(t, ">"+c.version, "<="+c.above, true, api.OK)
		checkMeet(t, ">="+c.version, "<"+c.above, true, api.OK)
		checkFits(t, ">"+c.version, c.above, true, api.OK)
		checkFits(t, "<"+c.above, c.version, true, api.OK)
	}
}

func TestP4RangesThatNoVersionFits(t *testing.T) {
	for _, text := range []string{
		"<0.0.0", ">99.99.99", ">1.0.0&<1.0.1", ">0.99.99&<1.0.0", ">2.0.0&<1.0.0", "=1.0.0&=2.0.0", "^1.0.0&^2.0.0", "^0.1.0&^0.2.0", "~1.1.0&>=1.2.0", "<0.0.0&*", "<0.0.0|>99.99.99", "^0.0.1&>0.0.1",
	} {
		checkLowest(t, text, "", api.ErrNone)
		checkMeet(t, text, "*", false, api.OK)
		checkMeet(t, "*", text, false, api.OK)
		checkMeet(t, text, text, false, api.OK)
		checkFits(t, text, "0.0.0", false, api.OK)
		checkFits(t, text, "1.0.0", false, api.OK)
		checkFits(t, text, "99.99.99", false, api.OK)
		checkLowest(t, text+"|=4.0.0", "4.0.0", api.OK)
		checkMeet(t, "=4.0.0|"+text, "*", true, api.OK)
	}
}

func TestP4LowestIsOfAnyAlternative(t *testing.T) {
	checkLowest(t, "*", "0.0.0", api.OK)
	checkLowest(t, "=3.0.0|=2.0.0|=1.0.0", "1.0.0", api.OK)
	checkLowest(t, "=1.0.0|=2.0.0|=3.0.0", "1.0.0", api.OK)
	checkLowest(t, "=3.0.0|=1.0.0|=2.0.0", "1.0.0", api.OK)
	checkLowest(t, ">=3.0.0&^3.4.0", "3.4.0", api.OK)
	checkLowest(t, "<5.0.0", "0.0.0", api.OK)
	checkLowest(t, "=99.99.99", "99.99.99", api.OK)
}

func TestP4MeetIsOfAnyTwoAlternatives(t *testing.T) {
	checkMeet(t, "=1.0.0|=3.0.0", "=2.0.0|=3.0.0", true, api.OK)
	checkMeet(t, "=1.0.0|=3.0.0", "=1.0.0|=2.0.0", true, api.OK)
	checkMeet(t, "=1.0.0|=3.0.0", "=2.0.0|=1.0.0", true, api.OK)
	checkMeet(t, "=1.0.0|=3.0.0", "=2.0.0|=4.0.0", false, api.OK)
	// Each meets a part of the other, but never all of an alternative.
	checkMeet(t, "=1.0.0|=3.0.0", ">1.0.0&<3.0.0", false, api.OK)
}

// P2: the answers are the same whatever was asked before.
func TestP2AnswersDependOnArgumentsAlone(t *testing.T) {
	for round := 0; round < 3; round++ {
		checkFits(t, "^1.0.0", "1.5.0", true, api.OK)
		checkFits(t, "^2.0.0", "1.5.0", false, api.OK)
		checkFits(t, "^2.0.0", "1.5", false, api.ErrVersion)
		checkMeet(t, "^1.0.0", "^2.0.0", false, api.OK)
		checkMeet(t, "^1.0.0", "x", false, api.ErrRange)
		checkMeet(t, "^1.0.0", "~1.5.0", true, api.OK)
		checkLowest(t, "^1.0.0", "1.0.0", api.OK)
		checkLowest(t, "<0.0.0", "", api.ErrNone)
		checkLowest(t, "", "", api.ErrRange)
		checkLowest(t, "^2.0.0", "2.0.0", api.OK)
	}
}
