package span_test

import (
	"math"
	"slices"
	"strings"
	"testing"

	"halyard/api"
	"halyard/span"
)

// R1: every call ends and none panics, at all arguments.
func TestEveryCallEnds(t *testing.T) {
	s := source(5)
	numbers := []int{0, 1, 2, 5, 998, 999, 1000, -1, math.MinInt, math.MaxInt}
	number := func() int { return numbers[s.below(len(numbers))] }
	list := func() []api.Span {
		l := make([]api.Span, s.below(5))
		for i := range l {
			l[i] = api.Span{Lo: version(number(), number(), number()), Hi: version(number(), number(), number())}
		}
		return l
	}
	for range 20000 {
		a, b := list(), list()
		may := span.May(a) && span.May(b)
		span.In(a, version(number(), number(), number()))
		if (span.Print(a) != "") != span.May(a) {
			t.Fatalf("Print(%v): %q", a, span.Print(a))
		}
		for _, f := range folds() {
			if got, e := f.call(a, b); (e == api.OK) != may || e != api.OK && (e != api.ErrRange || len(got) != 0) {
				t.Fatalf("%s(%v, %v): %v, error %d", f.name, a, b, got, e)
			}
		}
	}
	for range 20000 {
		var b strings.Builder
		for range s.below(12) {
			b.WriteString([]string{"*", "1.0.0", "2.5", "999.999.999", " ", "||", "|", "<", ">", "=", "^", "~", ".", "\x00", "\xff", "\t", "x"}[s.below(17)])
		}
		if got, e := span.Parse(b.String()); e != api.OK && (e != api.ErrRange || len(got) != 0) {
			t.Fatalf("Parse(%q): %v, error %d", b.String(), got, e)
		}
	}
}

// roomy is a copy of a list, in the middle of more memory: all of the memory is answered beside it.
func roomy(l []api.Span) (list, memory []api.Span) {
	mark := api.Span{Lo: version(-7, -7, -7), Hi: version(-8, -8, -8)}
	memory = append(memory, mark)
	memory = append(memory, l...)
	for range 70 {
		memory = append(memory, mark)
	}
	return memory[1 : 1+len(l)], memory
}

// spoil writes over a list and its spare room.
func spoil(l []api.Span) {
	l = l[:cap(l)]
	for i := range l {
		l[i] = api.Span{Lo: version(-1, i, 0), Hi: version(-2, i, 0)}
	}
}

// R4: what is handed in stays as it is, its spare room too.
func TestHandedInStays(t *testing.T) {
	s := source(6)
	lists := [][]api.Span{nil, span.All(), every(64, 0, 2, 1), spans("2.0.0 to 1.0.0"), spans("3.0.0", "1.0.0"), every(66, 0, 2, 1)}
	for range 200 {
		lists = append(lists, s.someRange(20))
	}
	for i, x := range lists {
		for _, y := range [][]api.Span{lists[(i+1)%len(lists)], x, span.All(), nil} {
			a, memoryA := roomy(x)
			b, memoryB := roomy(y)
			wantA, wantB := slices.Clone(memoryA), slices.Clone(memoryB)
			span.May(a)
			span.In(a, version(1, 0, 0))
			span.Print(a)
			for _, f := range folds() {
				f.call(a, b)
				f.call(a, a)
			}
			if !slices.Equal(memoryA, wantA) || !slices.Equal(memoryB, wantB) {
				t.Fatalf("%v, %v: what was handed in is changed", few(x), few(y))
			}
		}
	}
}

// R4: what is answered is new memory, its spare room too.
func TestAnswersAreNew(t *testing.T) {
	s := source(7)
	lists := [][]api.Span{nil, span.All(), every(64, 0, 2, 1), spans("1.0.0")}
	for range 200 {
		lists = append(lists, s.someRange(20))
	}
	for i, x := range lists {
		for _, y := range [][]api.Span{lists[(i+1)%len(lists)], x, span.All(), nil} {
			for _, f := range folds() {
				a, memoryA := roomy(x)
				b, memoryB := roomy(y)
				wantA, wantB := slices.Clone(memoryA), slices.Clone(memoryB)
				kept, _ := f.call(a, b)
				want := slices.Clone(kept)
				other, _ := f.call(a, b)
				spoil(other)
				if !slices.Equal(memoryA, wantA) || !slices.Equal(memoryB, wantB) || !slices.Equal(kept, want) {
					t.Fatalf("%s of %v, %v shares memory", f.name, few(x), few(y))
				}
				spoil(memoryA)
				spoil(memoryB)
				if !slices.Equal(kept, want) {
					t.Fatalf("%s of %v, %v is kept by what was handed in", f.name, few(x), few(y))
				}
			}
		}
	}
}

// R4: so are All and what Parse reads.
func TestOwnRangesAreNew(t *testing.T) {
	for range 3 {
		spoil(span.All())
		if got := span.All(); !slices.Equal(got, spans("0.0.0 to 999.999.999")) {
			t.Fatalf("All: %v", got)
		}
		for s, want := range map[string][]api.Span{"*": span.All(), "1.0.0||3.0.0": spans("1.0.0", "3.0.0"), "^1.0.0": spans("1.0.0 to 1.999.999"), "<0.0.0": nil} {
			kept, e := span.Parse(s)
			other, _ := span.Parse(s)
			spoil(other)
			gives(t, "Parse("+s+"), kept,", kept, e, want)
			parses(t, s, want)
		}
	}
}

// R4: nil and empty lists are one.
func TestNilAndEmpty(t *testing.T) {
	for _, none := range [][]api.Span{nil, {}, make([]api.Span, 0, 5)} {
		if !span.May(none) || span.In(none, first) || span.Print(none) != "<0.0.0" {
			t.Error("a range of none is another one")
		}
		for _, f := range folds() {
			got, e := f.call(none, none)
			gives(t, f.name+" of none and none", got, e, nil)
			got, e = f.call(none, spans("1.0.0"))
			gives(t, f.name+" of none and one", got, e, model(nil, spans("1.0.0"), f.keep))
			got, e = f.call(spans("1.0.0"), none)
			gives(t, f.name+" of one and none", got, e, model(spans("1.0.0"), nil, f.keep))
		}
	}
}

// R5: the same is answered again, whatever was asked in between.
func TestSameAgain(t *testing.T) {
	s := source(8)
	for range 100 {
		a, b := s.someRange(20), s.someRange(20)
		for _, f := range folds() {
			want, e := f.call(a, b)
			span.Parse("1.0.0 || nothing")
			f.call(b, spans("2.0.0 to 1.0.0"))
			f.call(b, a)
			long, _ := roomy(a)
			got, again := f.call(long, slices.Clip(b))
			if e != again || !slices.Equal(got, want) {
				t.Errorf("%s of %v, %v: %v, and before %v", f.name, few(a), few(b), few(got), few(want))
			}
		}
	}
}

// The limits of this layer.
func TestLimits(t *testing.T) {
	if api.MaxSpans != 64 || api.MaxText != 4096 || api.MaxPart != 999 {
		t.Error("limits:", api.MaxSpans, api.MaxText, api.MaxPart)
	}
}
