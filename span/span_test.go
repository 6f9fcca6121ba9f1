package span_test

import (
	"slices"
	"strconv"
	"testing"

	"halyard/api"
	"halyard/span"
)

// The chapter's table: May, Meet, Join, Cut.
func TestExamples(t *testing.T) {
	if span.May(spans("1.0.0 to 1.0.0", "1.0.1 to 2.0.0")) || span.May(spans("2.0.0 to 1.0.0")) {
		t.Error("May of what may not be: true")
	}
	got, e := span.Meet(spans("1.0.0 to 999.999.999"), spans("0.0.0 to 1.999.999"))
	gives(t, "Meet(>=1.0.0, <2.0.0)", got, e, spans("1.0.0 to 1.999.999"))
	got, e = span.Join(spans("0.0.0 to 0.999.999"), spans("1.0.0"))
	gives(t, "Join(<1.0.0, 1.0.0)", got, e, spans("0.0.0 to 1.0.0"))
	got, e = span.Cut(spans("0.0.0 to 999.999.999"), spans("1.0.0"))
	gives(t, "Cut(*, 1.0.0)", got, e, spans("0.0.0 to 0.999.999", "1.0.1 to 999.999.999"))
}

// P3.1: which ranges may be.
func TestMay(t *testing.T) {
	for what, l := range map[string][]api.Span{
		"none":                                nil,
		"an empty list":                       {},
		"an empty list with room":             make([]api.Span, 0, 8),
		"all":                                 spans("0.0.0 to 999.999.999"),
		"the first":                           spans("0.0.0"),
		"the last":                            spans("999.999.999"),
		"one version":                         spans("1.2.3"),
		"one span":                            spans("1.2.3 to 1.2.4"),
		"a span over a carry":                 spans("1.999.999 to 2.0.0"),
		"a span of which only Major rises":    spans("1.9.9 to 2.0.0"),
		"a span of which only Minor rises":    spans("1.1.9 to 1.2.0"),
		"one version between two spans":       spans("1.0.0", "1.0.2"),
		"one version between them, a carry":   spans("0.0.0 to 0.999.998", "1.0.0"),
		"one version between them, behind it": spans("0.0.0 to 0.999.999", "1.0.1"),
		"the ends":                            spans("0.0.0", "999.999.999"),
		"all but one at the end":              spans("0.0.0 to 999.999.997", "999.999.999"),
		"all but one at the beginning":        spans("0.0.0", "0.0.2 to 999.999.999"),
		"three":                               spans("0.0.0 to 0.0.5", "0.0.7", "1.0.0 to 3.0.0"),
		"63 spans":                            every(63, 0, 2, 1),
		"64 spans":                            every(64, 0, 2, 1),
		"64 spans up to the last version":     every(64, versions-127, 2, 1),
		"64 wide spans":                       every(64, 0, 15000000, 14999999),
	} {
		if !span.May(l) {
			t.Errorf("May of %s, %v: false", what, few(l))
		}
	}
	for what, l := range mayNot() {
		if span.May(l) {
			t.Errorf("May of %s, %v: true", what, few(l))
		}
	}
}

// P3.1: of all lists of two spans of six versions just those may be that rise and do not touch.
func TestMayOfAllPairs(t *testing.T) {
	for _, base := range []int{0, 997, 999997, versions - 6} {
		for n := range 6 * 6 * 6 * 6 {
			a, b, c, d := n%6, n/6%6, n/36%6, n/216
			l := []api.Span{between(base+a, base+b), between(base+c, base+d)}
			if got, want := span.May(l), a <= b && b+1 < c && c <= d; got != want {
				t.Errorf("May(%v): %v", l, got)
			}
		}
	}
}

// P3.1: the range of all versions.
func TestAll(t *testing.T) {
	want := spans("0.0.0 to 999.999.999")
	if got := span.All(); !slices.Equal(got, want) {
		t.Errorf("All: %v", got)
	}
}

// P3.1: which versions are in a range.
func TestIn(t *testing.T) {
	l := spans("1.0.0 to 1.999.999", "2.0.1", "3.5.0 to 999.999.998")
	for s, want := range map[string]bool{
		"0.0.0": false, "0.999.999": false, "1.0.0": true, "1.0.1": true, "1.500.0": true, "1.999.999": true, "2.0.0": false, "2.0.1": true, "2.0.2": false,
		"3.4.999": false, "3.5.0": true, "3.10.0": true, "10.0.0": true, "999.999.998": true, "999.999.999": false,
	} {
		if got := span.In(l, read(s)); got != want {
			t.Errorf("In(%v, %s): %v", l, s, got)
		}
	}
	for _, v := range []api.Version{first, version(0, 0, 1), version(1, 2, 3), last} {
		if span.In(nil, v) || span.In([]api.Span{}, v) {
			t.Errorf("In of none, %v: true", v)
		}
		if !span.In(span.All(), v) {
			t.Errorf("In of all, %v: false", v)
		}
	}
	many := every(64, 10, 3, 2)
	for n := range 210 {
		if got, want := span.In(many, at(n)), n >= 10 && n < 10+64*3 && (n-10)%3 < 2; got != want {
			t.Errorf("In of 64 spans, %v: %v", at(n), got)
		}
	}
}

// P3.1: nothing is in a range that may not be; what is no version is in no range.
func TestInOfWhatMayNotBe(t *testing.T) {
	for what, l := range mayNot() {
		for _, v := range []api.Version{first, version(0, 0, 7), version(1, 0, 0), version(1, 0, 1), version(1, 5, 0), version(2, 0, 0), version(3, 0, 0), last} {
			if span.In(l, v) {
				t.Errorf("In of %s, %v: true", what, v)
			}
		}
		for _, s := range few(l) {
			if span.In(l, s.Lo) || span.In(l, s.Hi) {
				t.Errorf("In of %s, an end of %v: true", what, s)
			}
		}
	}
	for _, v := range noVersions() {
		if span.In(span.All(), v) || span.In(spans("0.0.0 to 5.5.5", "7.0.0 to 999.0.0"), v) || span.In(nil, v) {
			t.Errorf("In of a range, %v: true", v)
		}
	}
}

// two is two ranges, and what is made of them.
type two struct{ a, b, want []api.Span }

// makes tells a fault unless a call makes of each two ranges what it must.
func makes(t *testing.T, name string, call func(a, b []api.Span) ([]api.Span, api.Errno), l []two) {
	t.Helper()
	for _, c := range l {
		got, e := call(c.a, c.b)
		gives(t, name, got, e, c.want)
	}
}

// turned is the same, the ranges the other way round.
func turned(l []two) []two {
	var out []two
	for _, c := range l {
		out = append(out, two{c.b, c.a, c.want})
	}
	return out
}

// P3.2: what is in both.
func TestMeet(t *testing.T) {
	l := []two{
		{nil, nil, nil},
		{span.All(), nil, nil},
		{span.All(), span.All(), span.All()},
		{span.All(), spans("1.0.0", "1.0.2"), spans("1.0.0", "1.0.2")},
		{spans("1.0.0 to 2.0.0"), spans("2.0.0 to 3.0.0"), spans("2.0.0")},
		{spans("1.0.0 to 2.0.0"), spans("2.0.1 to 3.0.0"), nil},
		{spans("1.0.0 to 5.0.0"), spans("2.0.0 to 3.0.0"), spans("2.0.0 to 3.0.0")},
		{spans("1.0.0 to 2.0.0", "3.0.0 to 4.0.0"), spans("1.5.0 to 3.5.0"), spans("1.5.0 to 2.0.0", "3.0.0 to 3.5.0")},
		{spans("0.0.0", "1.0.0", "2.0.0"), spans("0.0.1", "1.0.1", "2.0.0"), spans("2.0.0")},
		{spans("0.0.0", "999.999.999"), spans("0.0.0 to 1.0.0", "2.0.0 to 999.999.999"), spans("0.0.0", "999.999.999")},
	}
	makes(t, "Meet", span.Meet, l)
	makes(t, "Meet, the other way round,", span.Meet, turned(l))
}

// P3.2: what is in one of them at least.
func TestJoin(t *testing.T) {
	l := []two{
		{nil, nil, nil},
		{span.All(), nil, span.All()},
		{span.All(), span.All(), span.All()},
		{nil, spans("1.0.0", "1.0.2"), spans("1.0.0", "1.0.2")},
		{span.All(), spans("1.0.0", "1.0.2"), span.All()},
		{spans("1.0.0"), spans("1.0.1"), spans("1.0.0 to 1.0.1")},
		{spans("1.0.0"), spans("1.0.2"), spans("1.0.0", "1.0.2")},
		{spans("1.0.0"), spans("1.0.0"), spans("1.0.0")},
		{spans("1.0.0 to 2.0.0"), spans("2.0.0 to 3.0.0"), spans("1.0.0 to 3.0.0")},
		{spans("1.0.0 to 1.999.999"), spans("2.0.0 to 3.0.0"), spans("1.0.0 to 3.0.0")},
		{spans("1.0.0 to 5.0.0"), spans("2.0.0 to 3.0.0"), spans("1.0.0 to 5.0.0")},
		{spans("1.0.0", "3.0.0"), spans("2.0.0", "4.0.0"), spans("1.0.0", "2.0.0", "3.0.0", "4.0.0")},
		{spans("1.0.0", "1.0.2", "1.0.4"), spans("1.0.1", "1.0.3"), spans("1.0.0 to 1.0.4")},
		{spans("1.0.0", "3.0.0", "5.0.0"), spans("0.0.0 to 4.0.0"), spans("0.0.0 to 4.0.0", "5.0.0")},
		{spans("0.0.0 to 500.0.0"), spans("500.0.1 to 999.999.999"), span.All()},
	}
	makes(t, "Join", span.Join, l)
	makes(t, "Join, the other way round,", span.Join, turned(l))
}

// P3.2: what is in a and not in b.
func TestCut(t *testing.T) {
	makes(t, "Cut", span.Cut, []two{
		{nil, nil, nil},
		{nil, span.All(), nil},
		{span.All(), nil, span.All()},
		{span.All(), span.All(), nil},
		{span.All(), spans("0.0.0"), spans("0.0.1 to 999.999.999")},
		{span.All(), spans("999.999.999"), spans("0.0.0 to 999.999.998")},
		{span.All(), spans("0.0.0", "999.999.999"), spans("0.0.1 to 999.999.998")},
		{spans("1.0.0"), spans("1.0.0"), nil},
		{spans("1.0.0"), spans("2.0.0"), spans("1.0.0")},
		{spans("1.0.0 to 3.0.0"), spans("2.0.0 to 4.0.0"), spans("1.0.0 to 1.999.999")},
		{spans("2.0.0 to 4.0.0"), spans("1.0.0 to 3.0.0"), spans("3.0.1 to 4.0.0")},
		{spans("1.0.0 to 4.0.0"), spans("2.0.0 to 3.0.0"), spans("1.0.0 to 1.999.999", "3.0.1 to 4.0.0")},
		{spans("2.0.0 to 3.0.0"), spans("1.0.0 to 4.0.0"), nil},
		{spans("1.0.0 to 9.0.0"), spans("2.0.0", "4.0.0", "6.0.0"), spans("1.0.0 to 1.999.999", "2.0.1 to 3.999.999", "4.0.1 to 5.999.999", "6.0.1 to 9.0.0")},
		{spans("1.0.0", "3.0.0", "5.0.0", "7.0.0"), spans("2.0.0 to 6.0.0"), spans("1.0.0", "7.0.0")},
		{spans("1.0.0 to 2.0.0", "3.0.0 to 4.0.0"), spans("1.5.0 to 3.5.0"), spans("1.0.0 to 1.4.999", "3.5.1 to 4.0.0")},
	})
}

// P3.2: of all pairs of ranges made of some blocks the answer is the one list of what must be in it.
func TestFoldsOfAllPairs(t *testing.T) {
	cuts := blocks()
	for a := range 1 << len(cuts) {
		for b := range 1 << len(cuts) {
			for _, f := range folds() {
				want := map[string]int{"Meet": a & b, "Join": a | b, "Cut": a &^ b}[f.name]
				got, e := f.call(some(cuts, a), some(cuts, b))
				gives(t, f.name+" of the blocks "+strconv.FormatInt(int64(a), 2)+", "+strconv.FormatInt(int64(b), 2), got, e, some(cuts, want))
			}
		}
	}
}

// P3.2: what is answered of ranges of up to 64 spans is the one list of its versions; ErrFull, if that has more than 64 spans.
func TestFoldsOfMany(t *testing.T) {
	s := source(1)
	full := 0
	for i := range 3000 {
		most := []int{3, 12, 40, 64}[i%4]
		a, b := s.someRange(most), s.someRange(most)
		for _, f := range folds() {
			got, e := f.call(a, b)
			if want := model(a, b, f.keep); len(want) <= 64 {
				gives(t, f.name, got, e, want)
			} else {
				refuses(t, f.name+" of many", got, e, api.ErrFull)
				full++
			}
		}
	}
	if full == 0 {
		t.Error("no answer had more than 64 spans")
	}
}

// P3.2: an answer of 64 spans, and of 65.
func TestFoldsFull(t *testing.T) {
	wide := every(33, 0, 20, 11)
	got, e := span.Meet(wide, every(32, 5, 20, 18))
	gives(t, "Meet of 64", got, e, model(wide, every(32, 5, 20, 18), folds()[0].keep))
	if len(got) != 64 {
		t.Error("Meet of 64:", len(got))
	}
	got, e = span.Meet(wide, every(33, 5, 20, 18))
	refuses(t, "Meet of 65", got, e, api.ErrFull)
	got, e = span.Meet(every(33, 5, 20, 18), wide)
	refuses(t, "Meet of 65, the other way round", got, e, api.ErrFull)

	got, e = span.Join(every(32, 0, 4, 1), every(32, 2, 4, 1))
	gives(t, "Join of 64", got, e, every(64, 0, 2, 1))
	got, e = span.Join(every(64, 0, 2, 1), nil)
	gives(t, "Join of 64 and none", got, e, every(64, 0, 2, 1))
	got, e = span.Join(every(33, 0, 4, 1), every(32, 2, 4, 1))
	refuses(t, "Join of 65", got, e, api.ErrFull)
	got, e = span.Join(every(64, 0, 4, 1), every(1, 500, 4, 1))
	refuses(t, "Join of 64 and one", got, e, api.ErrFull)
	got, e = span.Join(every(64, 0, 4, 1), every(64, 2, 4, 1))
	refuses(t, "Join of 128", got, e, api.ErrFull)

	got, e = span.Cut(span.All(), every(63, 7, 2, 1))
	gives(t, "Cut to 64", got, e, model(span.All(), every(63, 7, 2, 1), folds()[2].keep))
	if len(got) != 64 {
		t.Error("Cut to 64:", len(got))
	}
	got, e = span.Cut(span.All(), every(64, 7, 2, 1))
	refuses(t, "Cut to 65", got, e, api.ErrFull)
	got, e = span.Cut(every(64, 0, 9, 5), every(1, 2, 1, 1))
	refuses(t, "Cut of 64 to 65", got, e, api.ErrFull)
	got, e = span.Cut(span.All(), every(64, 0, 2, 1))
	gives(t, "Cut to 64, the first gone", got, e, append(every(63, 1, 2, 1), between(127, versions-1)))
	got, e = span.Cut(span.All(), every(64, versions-127, 2, 1))
	gives(t, "Cut to 64, the last gone", got, e, append([]api.Span{between(0, versions-128)}, every(63, versions-126, 2, 1)...))
}

// P3.2: only what is answered is counted: ranges of 64 spans each may join to few.
func TestFoldsOfManyToFew(t *testing.T) {
	got, e := span.Join(every(64, 0, 2, 1), every(64, 1, 2, 1))
	gives(t, "Join of 128 that touch", got, e, every(1, 0, 1, 128))
	got, e = span.Join(every(64, 0, 4, 1), every(64, 1, 4, 1))
	gives(t, "Join of 128, two by two,", got, e, every(64, 0, 4, 2))
	got, e = span.Join(every(64, 0, 4, 1), span.All())
	gives(t, "Join of 64 and all", got, e, span.All())
	got, e = span.Meet(every(64, 0, 4, 2), every(64, 1, 4, 2))
	gives(t, "Meet of 64 and 64", got, e, every(64, 1, 4, 1))
	got, e = span.Meet(every(64, 0, 4, 1), every(64, 2, 4, 1))
	gives(t, "Meet of 64 and 64 others", got, e, nil)
	got, e = span.Cut(every(64, 0, 4, 2), every(64, 1, 4, 2))
	gives(t, "Cut of 64 by 64", got, e, every(64, 0, 4, 1))
	got, e = span.Cut(every(64, 0, 4, 2), every(64, 0, 4, 3))
	gives(t, "Cut of 64 to none", got, e, nil)
}

// P3.2: ErrRange, if one of the two may not be, or both.
func TestFoldsOfWhatMayNotBe(t *testing.T) {
	for what, l := range mayNot() {
		for _, f := range folds() {
			for _, other := range [][]api.Span{nil, span.All(), spans("1.0.0"), every(64, 0, 2, 1), l} {
				got, e := f.call(l, other)
				refuses(t, f.name+" of "+what, got, e, api.ErrRange)
				got, e = f.call(other, l)
				refuses(t, f.name+" by "+what, got, e, api.ErrRange)
			}
		}
	}
}
