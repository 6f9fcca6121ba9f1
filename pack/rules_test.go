package pack_test

import (
	"math"
	"slices"
	"strings"
	"testing"
	"unsafe"

	"halyard/api"
	"halyard/pack"
)

// anyPackage is a package of any numbers, texts and lists.
func (s *source) anyPackage() api.Package {
	numbers := []int{0, 1, 5, 999, 1000, -1, math.MinInt, math.MaxInt}
	any := func() api.Version {
		return version(numbers[s.below(len(numbers))], numbers[s.below(4)], numbers[s.below(4)])
	}
	name := func() string { return s.pick("a", "b", "c", "zz", "", "A", "\xff", "a b", "x\n") }
	p := api.Package{Name: name(), Version: any()}
	for _, l := range listsOf(&p) {
		for range s.below(4) {
			d := api.Dep{Name: name()}
			for range s.below(3) {
				d.Range = append(d.Range, api.Span{Lo: any(), Hi: any()})
			}
			*l = append(*l, d)
		}
	}
	return p
}

// R1, R2: every call ends and none panics, at all arguments; beside an error all else is zero.
func TestEveryCallEnds(t *testing.T) {
	s := source(4)
	for range 20000 {
		p, q := s.anyPackage(), s.anyPackage()
		if pack.Same(p, q) != same(p, q) {
			t.Fatalf("Same(%s, %s): %v", flat(p), flat(q), pack.Same(p, q))
		}
		if text, e := pack.Print(p); (e == api.OK) != pack.May(p) || e != api.OK && (e != api.ErrPack || text != "") {
			t.Fatalf("Print(%s): %q, error %d; May: %v", flat(p), text, e, pack.May(p))
		}
	}
	for range 20000 {
		var b strings.Builder
		for range s.below(14) {
			b.WriteString(s.pick("package", "needs", "likes", "a", "1.0.0", "*", " ", " ", "\n", "\n", "\x00", "\xff", "||", "package a 1.0.0\n", "needs b *\n"))
		}
		want, e := model(b.String())
		if p, got := pack.Parse(b.String()); got != e || e == api.OK && text(p) != want || e != api.OK && !same(p, api.Package{}) {
			t.Fatalf("Parse(%q): %s, error %d, not error %d", b.String(), flat(p), got, e)
		}
	}
}

// Great things are refused as soon as small ones.
func TestGreatThings(t *testing.T) {
	great := strings.Repeat("a", 1<<24)
	mayNotBe(t, "a great name", api.Package{Name: great})
	mayNotBe(t, "a great name in a list", with(0, []api.Dep{{Name: great, Range: ranged("*")}}))
	mayNotBe(t, "a great list", with(1, make([]api.Dep, 1<<20)))
	mayNotBe(t, "a great range", with(2, []api.Dep{{Name: "a", Range: make([]api.Span, 1<<20)}}))
	refuses(t, great, api.ErrText)
}

// roomy is a package whose lists stand in the middle of more memory, at both depths: all of the memory is answered beside it.
func roomy(p api.Package) (roomy, memory api.Package) {
	roomy, memory = p, p
	mark := api.Span{Lo: version(-7, -7, -7), Hi: version(-8, -8, -8)}
	for i, l := range listsOf(&p) {
		more := []api.Dep{{Name: "ahead"}}
		for _, d := range *l {
			spans := slices.Concat([]api.Span{mark}, d.Range, []api.Span{mark, mark, mark})
			more = append(more, api.Dep{Name: d.Name, Range: spans[1 : 1+len(d.Range)]})
		}
		more = append(more, api.Dep{Name: "behind"}, api.Dep{Name: "behind"})
		*listsOf(&roomy)[i], *listsOf(&memory)[i] = more[1:1+len(*l)], more
	}
	return roomy, memory
}

// whole is a copy of a package's lists with the spare room of each.
func whole(p api.Package) api.Package {
	p = clone(p)
	for _, l := range listsOf(&p) {
		for i, d := range *l {
			(*l)[i].Range = slices.Clone(d.Range[:cap(d.Range)])
		}
	}
	return p
}

// R4: what is handed in stays as it is, its spare room too.
func TestHandedInStays(t *testing.T) {
	s := source(5)
	l := append(packages()[:300], api.Package{}, ofLength(4097), with(0, deps("b", "a")), with(1, deps("a", "a")), with(2, deps(names("n", 17)...)))
	for range 300 {
		l = append(l, s.anyPackage())
	}
	for i, p := range l {
		a, memoryA := roomy(p)
		b, memoryB := roomy(l[(i+1)%len(l)])
		wantA, wantB := whole(memoryA), whole(memoryB)
		pack.May(a)
		pack.Print(a)
		pack.Same(a, b)
		pack.Same(a, a)
		if !same(whole(memoryA), wantA) || !same(whole(memoryB), wantB) {
			t.Fatalf("%s: what was handed in is changed", short(flat(p)))
		}
	}
}

// spoilDeps writes over a list and its spare room.
func spoilDeps(l []api.Dep) {
	l = l[:cap(l)]
	for i := range l {
		l[i] = api.Dep{Name: "spoilt"}
	}
}

// spoilRange writes over a range and its spare room.
func spoilRange(l []api.Span) {
	l = l[:cap(l)]
	for i := range l {
		l[i] = api.Span{Lo: version(-1, i, 0), Hi: version(-2, i, 0)}
	}
}

// spoil writes over all of a package's lists, at both depths.
func spoil(p api.Package) {
	for _, l := range listsOf(&p) {
		for _, d := range *l {
			spoilRange(d.Range)
		}
		spoilDeps(*l)
	}
}

// R4: what Parse answers is new memory, and Print does not keep what it was handed.
func TestAnswersAreNew(t *testing.T) {
	for _, p := range packages()[:300] {
		s := text(p)
		kept, _ := pack.Parse(s)
		other, _ := pack.Parse(s)
		spoil(other)
		if !same(kept, p) {
			t.Fatalf("Parse(%s) shares memory with the same call", short(s))
		}
		given := clone(p)
		printed, _ := pack.Print(given)
		spoil(given)
		if printed != s {
			t.Fatalf("Print of what is spoilt behind it: %s, not %s", short(printed), short(s))
		}
		reads(t, s, p)
		mayBe(t, short(s), p)
	}
}

// R4: no two lists of one answer share memory, their spare room neither.
func TestListsShareNothing(t *testing.T) {
	for _, p := range append(packages()[:300], api.Package{Name: "a", Deps: deps("b", "c", "d"), Peers: deps("e", "f"), Optional: deps("g")}) {
		s := text(p)
		got, _ := pack.Parse(s)
		want := clone(p)
		for i, l := range listsOf(&got) {
			for j, d := range *l {
				spoilRange(d.Range)
				(*l)[j].Range, (*listsOf(&want)[i])[j].Range = nil, nil
				if !same(got, want) {
					t.Fatalf("Parse(%s): the range of %s shares memory with another list", short(s), d.Name)
				}
			}
		}
		for i, l := range listsOf(&got) {
			spoilDeps(*l)
			*l, *listsOf(&want)[i] = nil, nil
			if !same(got, want) {
				t.Fatalf("Parse(%s): what it %s shares memory with another list", short(s), listWords[i])
			}
		}
	}
}

// within tells whether a text's bytes stand in another one's memory.
func within(s, memory string) bool {
	at, from := uintptr(unsafe.Pointer(unsafe.StringData(s))), uintptr(unsafe.Pointer(unsafe.StringData(memory)))
	return at >= from && at < from+uintptr(len(memory))
}

// R4: no name of an answer stands in the memory of the text that was handed in.
func TestTextsAreNew(t *testing.T) {
	for _, p := range packages()[:300] {
		s := text(p)
		got, _ := pack.Parse(s)
		all := slices.Concat(got.Deps, got.Peers, got.Optional)
		for _, d := range append(all, api.Dep{Name: got.Name}) {
			if within(d.Name, s) {
				t.Fatalf("Parse(%s): the name %s stands in the text", short(s), d.Name)
			}
		}
	}
}

// R4: nil and empty lists are one.
func TestNilAndEmpty(t *testing.T) {
	none := [][]api.Dep{nil, {}, make([]api.Dep, 0, 5)}
	for _, x := range none {
		for _, y := range none {
			a, b := api.Package{Name: "a", Deps: x, Peers: y, Optional: x}, api.Package{Name: "a", Deps: y, Peers: x, Optional: y}
			mayBe(t, "a package without Deps", a)
			if !pack.Same(a, b) || !pack.Same(a, api.Package{Name: "a"}) {
				t.Error("nil and empty lists are not the same")
			}
		}
	}
	for list := range 3 {
		ranges := [][]api.Span{nil, {}, make([]api.Span, 0, 5)}
		for _, x := range ranges {
			mayNotBe(t, "a range of none", with(list, []api.Dep{{Name: "b", Range: x}}))
			for _, y := range ranges {
				if !pack.Same(with(list, []api.Dep{{Name: "b", Range: x}}), with(list, []api.Dep{{Name: "b", Range: y}})) {
					t.Error("nil and empty ranges are not the same")
				}
			}
		}
	}
}

// R5: the same is answered again, whatever was asked in between and however much spare room there is.
func TestSameAgain(t *testing.T) {
	for _, p := range packages()[:300] {
		s := text(p)
		mayBe(t, short(s), p)
		reads(t, s, p)
		refuses(t, head+"needs b *\nwants c *\n", api.ErrLine)
		refuses(t, head+"needs b *\nneeds c x\n", api.ErrRange)
		mayNotBe(t, "another one", with(0, deps("b", "a")))
		room, _ := roomy(p)
		mayBe(t, short(s), room)
		if !pack.Same(room, p) || !pack.Same(p, room) {
			t.Fatalf("%s with spare room is another package", short(s))
		}
		reads(t, s, p)
	}
}

// The limits and errors of this layer.
func TestLimits(t *testing.T) {
	if api.MaxList != 16 || api.MaxText != 4096 || api.MaxSpans != 64 || api.MaxName != 16 || api.MaxPart != 999 {
		t.Error("limits:", api.MaxList, api.MaxText, api.MaxSpans, api.MaxName, api.MaxPart)
	}
	if api.ErrVersion != 20 || api.ErrRange != 21 || api.ErrLine != 22 || api.ErrName != 23 || api.ErrPack != 24 || api.ErrText != 25 {
		t.Error("errors:", api.ErrVersion, api.ErrRange, api.ErrLine, api.ErrName, api.ErrPack, api.ErrText)
	}
}
