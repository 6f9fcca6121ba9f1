package span_test

import (
	"math"
	"slices"
	"strconv"
	"strings"
	"testing"

	"halyard/api"
	"halyard/span"
)

func version(major, minor, patch int) api.Version {
	return api.Version{Major: major, Minor: minor, Patch: patch}
}

var (
	first = api.Version{Major: 0, Minor: 0, Patch: 0}
	last  = api.Version{Major: 999, Minor: 999, Patch: 999}
)

// versions is how many there are.
const versions = 1000000000

// rank and at tell versions by their places among all, by the tests' own arithmetic.
func rank(v api.Version) int { return v.Major*1000000 + v.Minor*1000 + v.Patch }

func at(n int) api.Version { return version(n/1000000, n/1000%1000, n%1000) }

// text is three numbers, whatever they are, as the texts of versions are made.
func text(v api.Version) string {
	return strconv.Itoa(v.Major) + "." + strconv.Itoa(v.Minor) + "." + strconv.Itoa(v.Patch)
}

// read is the version of a text of the tests, whose numbers may be any.
func read(s string) api.Version {
	var parts [3]int
	for i, p := range strings.SplitN(s, ".", 3) {
		n, err := strconv.Atoi(p)
		if err != nil {
			panic(err)
		}
		parts[i] = n
	}
	return version(parts[0], parts[1], parts[2])
}

// spans is a list as the chapter tells it: each text is one version, or `lo to hi`.
func spans(texts ...string) []api.Span {
	var l []api.Span
	for _, s := range texts {
		lo, hi, two := strings.Cut(s, " to ")
		if !two {
			hi = lo
		}
		l = append(l, api.Span{Lo: read(lo), Hi: read(hi)})
	}
	return l
}

// between is the span from one rank to another one.
func between(lo, hi int) api.Span { return api.Span{Lo: at(lo), Hi: at(hi)} }

// every is so many spans of one size, each so many ranks on from the one ahead of it.
func every(count, from, step, size int) []api.Span {
	var l []api.Span
	for i := range count {
		lo := from + i*step
		l = append(l, between(lo, lo+size-1))
	}
	return l
}

// blocks are all versions in order, cut at edges that matter: single versions at both ends, and where numbers carry.
func blocks() []api.Span {
	starts := []int{0, 1, 2, 1000, 1001, 1000000, versions - 2, versions - 1, versions}
	var l []api.Span
	for i := range len(starts) - 1 {
		l = append(l, between(starts[i], starts[i+1]-1))
	}
	return l
}

// some is the one list of the range that has just the blocks whose bits are set.
func some(blocks []api.Span, bits int) []api.Span {
	var l []api.Span
	for i, b := range blocks {
		if bits>>i&1 == 0 {
			continue
		}
		if i > 0 && bits>>(i-1)&1 == 1 {
			l[len(l)-1].Hi = b.Hi
		} else {
			l = append(l, b)
		}
	}
	return l
}

// has tells whether one of the spans has a rank.
func has(l []api.Span, n int) bool {
	return slices.ContainsFunc(l, func(s api.Span) bool { return rank(s.Lo) <= n && n <= rank(s.Hi) })
}

// model is the one list of the versions that are to be kept, as it is told of each whether it is in a and in b. It looks at one version between any two edges.
func model(a, b []api.Span, keep func(inA, inB bool) bool) []api.Span {
	edges := []int{0, versions}
	for _, s := range slices.Concat(a, b) {
		edges = append(edges, rank(s.Lo), rank(s.Hi)+1)
	}
	slices.Sort(edges)
	edges = slices.Compact(edges)
	var l []api.Span
	joins := false
	for i := range len(edges) - 1 {
		keeps := keep(has(a, edges[i]), has(b, edges[i]))
		if keeps && joins {
			l[len(l)-1].Hi = at(edges[i+1] - 1)
		} else if keeps {
			l = append(l, between(edges[i], edges[i+1]-1))
		}
		joins = keeps
	}
	return l
}

// fold is one of the calls that make a range of two, with what it keeps.
type fold struct {
	name string
	call func(a, b []api.Span) ([]api.Span, api.Errno)
	keep func(inA, inB bool) bool
}

func folds() []fold {
	return []fold{
		{"Meet", span.Meet, func(inA, inB bool) bool { return inA && inB }},
		{"Join", span.Join, func(inA, inB bool) bool { return inA || inB }},
		{"Cut", span.Cut, func(inA, inB bool) bool { return inA && !inB }},
	}
}

// source is numbers that look like chance, and are the same each time.
type source uint64

func (s *source) below(n int) int {
	*s = *s*6364136223846793005 + 1442695040888963407
	return int(uint64(*s) >> 33 % uint64(n))
}

// someRange is a range that may be, of at most so many spans: close together, so that ranges meet often, somewhere or at an end.
func (s *source) someRange(most int) []api.Span {
	var l []api.Span
	width := []int{3, 5, 40, 1500, 10000000}[s.below(5)]
	n := []int{0, 0, 900, 999900, versions - 200, s.below(versions)}[s.below(6)]
	n += s.below(width)
	for range s.below(most + 1) {
		size := s.below(width)
		if n+size >= versions {
			break
		}
		l = append(l, between(n, n+size))
		n += size + 2 + s.below(width)
	}
	return l
}

// mayNot is lists that may not be, by what is wrong with them.
func mayNot() map[string][]api.Span {
	lists := map[string][]api.Span{
		"65 spans":                              every(65, 0, 2, 1),
		"66 spans":                              every(66, 5, 10, 3),
		"65 spans up to the last version":       every(65, versions-129, 2, 1),
		"many spans":                            every(5000, 0, 2, 1),
		"a Lo greater than its Hi":              spans("2.0.0 to 1.0.0"),
		"a Lo next to its Hi, behind it":        spans("1.0.1 to 1.0.0"),
		"a Lo greater in its Minor":             spans("1.1.0 to 1.0.999"),
		"the last to the first":                 spans("999.999.999 to 0.0.0"),
		"a Lo greater than its Hi, behind":      spans("1.0.0", "3.0.0 to 2.0.0"),
		"a Lo greater than its Hi, ahead":       spans("1.5.0 to 1.0.0", "3.0.0 to 4.0.0"),
		"spans that touch":                      spans("1.0.0 to 1.0.0", "1.0.1 to 2.0.0"),
		"spans that touch, by a carry":          spans("0.0.0 to 0.999.999", "1.0.0"),
		"spans that touch, by a small carry":    spans("0.0.0 to 0.5.999", "0.6.0 to 1.0.0"),
		"spans that touch at the end":           spans("999.999.998", "999.999.999"),
		"spans that touch at the beginning":     spans("0.0.0", "0.0.1"),
		"the second and the third touch":        spans("1.0.0", "2.0.0 to 3.0.0", "3.0.1"),
		"spans that overlap":                    spans("1.0.0 to 2.0.0", "1.5.0 to 3.0.0"),
		"spans with one version in both":        spans("1.0.0 to 2.0.0", "2.0.0 to 3.0.0"),
		"one span in the other":                 spans("1.0.0 to 2.0.0", "1.1.0 to 1.2.0"),
		"one span twice":                        spans("1.0.0", "1.0.0"),
		"the last version twice":                spans("999.999.999", "999.999.999"),
		"all versions twice":                    spans("0.0.0 to 999.999.999", "0.0.0 to 999.999.999"),
		"all versions, and the first":           spans("0.0.0 to 999.999.999", "0.0.0"),
		"up to the last, and more":              spans("5.0.0 to 999.999.999", "1.0.0"),
		"the wrong order":                       spans("3.0.0", "1.0.0"),
		"the wrong order, from the last one":    spans("999.999.999", "0.0.0"),
		"the wrong order, touching":             spans("1.0.1", "1.0.0"),
		"the wrong order behind":                spans("1.0.0", "7.0.0", "5.0.0"),
		"the wrong order, the next ones rising": spans("5.0.0", "1.0.0", "7.0.0"),
	}
	for _, v := range noVersions() {
		lists["Lo "+text(v)] = []api.Span{{Lo: v, Hi: last}}
		lists["Hi "+text(v)] = []api.Span{{Lo: first, Hi: v}}
		lists["both "+text(v)] = []api.Span{{Lo: v, Hi: v}}
		lists["a second Lo "+text(v)] = []api.Span{between(0, 0), {Lo: v, Hi: last}}
		lists["a second Hi "+text(v)] = []api.Span{between(0, 0), {Lo: at(7), Hi: v}}
	}
	return lists
}

// noVersions is versions that may not be.
func noVersions() []api.Version {
	var l []api.Version
	for _, n := range []int{-1, -999, 1000, 1001, math.MinInt, math.MaxInt, math.MaxInt32, math.MinInt32} {
		for _, other := range []int{0, 5, 999} {
			l = append(l, version(n, other, other), version(other, n, other), version(other, other, n), version(n, n, n))
		}
	}
	return l
}

// short cuts a text that is too long to tell.
func short(s string) string {
	if len(s) > 120 {
		return strconv.Quote(s[:120]) + " and so on"
	}
	return strconv.Quote(s)
}

// few cuts a list that is too long to tell.
func few(l []api.Span) []api.Span { return l[:min(len(l), 6)] }

// gives tells a fault unless just that range, and OK, was answered.
func gives(t *testing.T, what string, got []api.Span, e api.Errno, want []api.Span) {
	t.Helper()
	if e != api.OK || !slices.Equal(got, want) {
		t.Errorf("%s: %d spans %v, error %d, not %d spans %v", what, len(got), few(got), e, len(want), few(want))
	}
}

// refuses tells a fault unless just that error was answered, and no span.
func refuses(t *testing.T, what string, got []api.Span, e, want api.Errno) {
	t.Helper()
	if e != want || len(got) != 0 {
		t.Errorf("%s: %d spans %v, error %d, not error %d", what, len(got), few(got), e, want)
	}
}

// parses tells a fault unless a text is that of a range.
func parses(t *testing.T, s string, want []api.Span) {
	t.Helper()
	got, e := span.Parse(s)
	gives(t, "Parse("+short(s)+")", got, e, want)
}

// parsesNot tells a fault unless a text is no range's.
func parsesNot(t *testing.T, s string) {
	t.Helper()
	got, e := span.Parse(s)
	refuses(t, "Parse("+short(s)+")", got, e, api.ErrRange)
}
