package vers_test

import (
	"math"
	"strconv"
	"testing"

	"halyard/api"
	"halyard/vers"
)

func version(major, minor, patch int) api.Version {
	return api.Version{Major: major, Minor: minor, Patch: patch}
}

// zero stands beside every false.
var zero = api.Version{}

var (
	first = api.Version{Major: 0, Minor: 0, Patch: 0}
	last  = api.Version{Major: 999, Minor: 999, Patch: 999}
)

// outside is numbers that no part of a version may be; some would be one if they were cut to fewer bits.
func outside() []int {
	l := []int{-1, -2, -999, -1000, 1000, 1001, 1999, 9999, 999999, 1000000, math.MinInt, math.MinInt + 1, math.MaxInt, math.MaxInt32, math.MinInt32}
	for _, bits := range []int{16, 31, 32, 33, 48, 62} {
		if n := 1 << bits; n > 1000 {
			l = append(l, n, n+1, n+7, n+999, -n, -n-1, 7-n, 999-n)
		}
	}
	return l
}

// inside is numbers that a part of a version may be, the edges and the lengths among them.
func inside() []int {
	return []int{0, 1, 2, 3, 9, 10, 11, 99, 100, 101, 127, 128, 255, 256, 500, 989, 998, 999}
}

// inEachPlace is the versions that have a number in one place, in two, or in all three, and another number in the others.
func inEachPlace(n, other int) []api.Version {
	return []api.Version{
		version(n, other, other), version(other, n, other), version(other, other, n),
		version(n, n, other), version(n, other, n), version(other, n, n), version(n, n, n),
	}
}

// noVersions is versions that may not be.
func noVersions() []api.Version {
	var l []api.Version
	for _, n := range outside() {
		for _, other := range []int{0, 1, 7, 998, 999} {
			l = append(l, inEachPlace(n, other)...)
		}
	}
	// Numbers that would be right, were one to stand in for another.
	return append(l, version(1, -1, 1000), version(1, -1, 0), version(0, 1, -1), version(1, 0, -1000), version(-1, 1000, 0), version(-1, 999, 1000), version(1000, -1, 0))
}

// someVersions is versions that may be, in order: all of the numbers of inside in all places.
func someVersions() []api.Version {
	var l []api.Version
	for _, a := range inside() {
		for _, b := range inside() {
			for _, c := range inside() {
				l = append(l, version(a, b, c))
			}
		}
	}
	return l
}

// someRanks is ranks all over the versions, in order, with those of the edges.
func someRanks() []int {
	var l []int
	for n := range 2500 {
		l = append(l, n)
	}
	for n := 2500; n < 999997000; n += 99991 {
		l = append(l, n)
	}
	for n := 999997000; n < 1000000000; n++ {
		l = append(l, n)
	}
	return l
}

// count is a version's rank by counting: all versions of the lesser majors, then those of the lesser minors, then the lesser patches.
func count(v api.Version) int {
	n := 0
	for range v.Major {
		n += 1000 * 1000
	}
	for range v.Minor {
		n += 1000
	}
	return n + v.Patch
}

// text is three numbers, whatever they are, as the texts of versions are made.
func text(v api.Version) string {
	return strconv.Itoa(v.Major) + "." + strconv.Itoa(v.Minor) + "." + strconv.Itoa(v.Patch)
}

// gives tells a fault unless a version, and true, was answered.
func gives(t *testing.T, what string, got api.Version, ok bool, want api.Version) {
	t.Helper()
	if got != want || !ok {
		t.Errorf("%s: %v, %v, not %v, true", what, got, ok, want)
	}
}

// none tells a fault unless the zero version, and false, was answered.
func none(t *testing.T, what string, got api.Version, ok bool) {
	t.Helper()
	if got != zero || ok {
		t.Errorf("%s: %v, %v, not the zero version, false", what, got, ok)
	}
}

// parsesNot tells a fault unless a text is no version.
func parsesNot(t *testing.T, s string) {
	t.Helper()
	got, ok := vers.Parse(s)
	if len(s) > 60 {
		s = s[:60] + " and so on"
	}
	none(t, "Parse("+strconv.Quote(s)+")", got, ok)
}
