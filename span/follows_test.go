package span_test

import (
	"slices"
	"testing"

	"halyard/api"
	"halyard/span"
)

// ranges is ranges that may be: all of some blocks, such as look like chance, and the longest.
func ranges() [][]api.Span {
	var l [][]api.Span
	cuts := blocks()
	for bits := range 1 << len(cuts) {
		l = append(l, some(cuts, bits))
	}
	s := source(2)
	for range 500 {
		l = append(l, s.someRange(64))
	}
	return append(l, every(64, 0, 2, 1), every(64, versions-127, 2, 1), every(64, 998999000, 3000, 2999))
}

// Parse of Print is the range.
func TestParseOfPrint(t *testing.T) {
	for _, l := range ranges() {
		s := span.Print(l)
		if s == "" {
			t.Errorf("Print(%v): empty", few(l))
		}
		parses(t, s, l)
	}
}

// A range has one text, whatever text it was read from.
func TestPrintOfParse(t *testing.T) {
	for s, want := range map[string]string{
		"^1.0.0": ">=1.0.0 <=1.999.999", "=1.0.0": "1.0.0", "1.0.0||1.0.1": ">=1.0.0 <=1.0.1", "  * ": "*", ">=0.0.0": "*", "<=999.999.999": "*", "^0.0.0": "0.0.0",
		"1.0.0 2.0.0": "<0.0.0", ">999.999.999": "<0.0.0", "3.0.0||1.0.0": "1.0.0 || 3.0.0", "<1.0.0||>1.0.0": "<=0.999.999 || >=1.0.1", ">=999.999.999": "999.999.999",
	} {
		l, e := span.Parse(s)
		if got := span.Print(l); e != api.OK || got != want {
			t.Errorf("Print of Parse(%q): %q, error %d, not %q", s, got, e, want)
		}
	}
}

// probes is versions at the ends of spans, beside them and between.
func probes(lists ...[]api.Span) []api.Version {
	l := []api.Version{first, last, version(0, 0, 1), version(1, 0, 0), version(999, 999, 998)}
	for _, s := range slices.Concat(lists...) {
		lo, hi := rank(s.Lo), rank(s.Hi)
		for _, n := range []int{lo - 1, lo, (lo + hi) / 2, hi, hi + 1} {
			if n >= 0 && n < versions {
				l = append(l, at(n))
			}
		}
	}
	return l
}

// A version is in Meet, Join, Cut just if that is so of the two.
func TestInFolds(t *testing.T) {
	s := source(3)
	for range 200 {
		a, b := s.someRange(20), s.someRange(20)
		for _, f := range folds() {
			l, e := f.call(a, b)
			if e != api.OK || !span.May(l) {
				t.Errorf("%s of %v, %v: %v, error %d", f.name, few(a), few(b), few(l), e)
			}
			for _, v := range probes(a, b, l) {
				if got, want := span.In(l, v), f.keep(span.In(a, v), span.In(b, v)); got != want {
					t.Errorf("%v in %s of %v, %v: %v", v, f.name, few(a), few(b), got)
				}
			}
		}
	}
}

// What is no version is in no Meet, Join or Cut either, though it stands between two versions.
func TestNoVersionInFolds(t *testing.T) {
	a, b := spans("1.0.0 to 1.999.999", "3.0.0"), spans("2.0.0 to 2.999.999")
	for _, f := range folds() {
		l, _ := f.call(a, b)
		for _, v := range []api.Version{version(1, 1000, 0), version(1, 999, 1000), version(2, 5, -1), version(2, 5, 1000), version(2, 1000, -5)} {
			if span.In(l, v) {
				t.Errorf("%v in %s: true", v, f.name)
			}
		}
	}
}

// Two ranges that may be have the same versions just if they are the same lists.
func TestSameVersionsSameLists(t *testing.T) {
	const base, count = 997, 9
	seen := map[int][]api.Span{}
	bits := func(l []api.Span) int {
		n := 0
		for i := range count {
			if span.In(l, at(base+i)) {
				n |= 1 << i
			}
		}
		return n
	}
	// All lists of at most two spans of nine versions.
	lists := [][]api.Span{nil}
	for a := range count {
		for b := range count {
			lists = append(lists, []api.Span{between(base+a, base+b)})
			for c := range count {
				for d := range count {
					lists = append(lists, []api.Span{between(base+a, base+b), between(base+c, base+d)})
				}
			}
		}
	}
	for _, l := range lists {
		if !span.May(l) {
			continue
		}
		if other, ok := seen[bits(l)]; ok && !slices.Equal(l, other) {
			t.Errorf("%v and %v have the same versions", l, other)
		}
		seen[bits(l)] = l
	}
	if len(seen) != 1+45+210 {
		t.Errorf("%d lists of at most two spans may be", len(seen))
	}
	for _, l := range ranges() {
		for _, other := range ranges()[:40] {
			a, e := span.Cut(l, other)
			b, f := span.Cut(other, l)
			// What is too long a range to be answered is not none.
			if same := e == api.OK && f == api.OK && len(a) == 0 && len(b) == 0; same != slices.Equal(l, other) {
				t.Errorf("%v and %v: the same versions: %v", few(l), few(other), same)
			}
		}
	}
}

// What sets do: no fold loses or makes a version.
func TestLaws(t *testing.T) {
	s := source(4)
	for range 300 {
		a, b := s.someRange(12), s.someRange(12)
		met, _ := span.Meet(a, b)
		left, _ := span.Cut(a, b)
		right, _ := span.Cut(b, a)
		got, e := span.Join(met, left)
		gives(t, "what is met and what is left", got, e, a)
		joined, _ := span.Join(a, b)
		back, _ := span.Cut(joined, right)
		gives(t, "what is joined, without what the other one brought,", back, api.OK, a)
		rest, _ := span.Cut(span.All(), a)
		all, e := span.Join(a, rest)
		gives(t, "a range and all others", all, e, span.All())
		none, e := span.Meet(a, rest)
		gives(t, "what a range and all others have in common", none, e, nil)
	}
}
