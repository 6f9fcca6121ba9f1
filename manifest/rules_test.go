package manifest_test

import (
	"math"
	"slices"
	"strings"
	"testing"
	"unsafe"

	"halyard/api"
	"halyard/manifest"
)

// anyManifest is a manifest of any numbers, texts and lists.
func (s *source) anyManifest() api.Manifest {
	numbers := []int{0, 1, 5, 999, 1000, -1, math.MinInt, math.MaxInt}
	any := func() api.Version {
		return version(numbers[s.below(len(numbers))], numbers[s.below(4)], numbers[s.below(4)])
	}
	var m api.Manifest
	for _, l := range listsOf(&m) {
		for range s.below(4) {
			d := api.Dep{Name: s.pick("a", "b", "c", "zz", "", "A", "\xff", "a b", "x\n")}
			for range s.below(3) {
				d.Range = append(d.Range, api.Span{Lo: any(), Hi: any()})
			}
			*l = append(*l, d)
		}
	}
	return m
}

// R1, R2: every call ends and none panics, at all arguments; beside an error all else is zero.
func TestEveryCallEnds(t *testing.T) {
	s := source(4)
	for range 20000 {
		m, n := s.anyManifest(), s.anyManifest()
		if manifest.Same(m, n) != same(m, n) {
			t.Fatalf("Same(%s, %s): %v", flat(m), flat(n), manifest.Same(m, n))
		}
		if text, e := manifest.Print(m); (e == api.OK) != manifest.May(m) || e != api.OK && (e != api.ErrText || text != "") {
			t.Fatalf("Print(%s): %q, error %d; May: %v", flat(m), text, e, manifest.May(m))
		}
	}
	for range 20000 {
		var b strings.Builder
		for range s.below(14) {
			b.WriteString(s.pick("project", "needs", "pins", "a", "1.0.0", "*", " ", " ", "\n", "\n", "\x00", "\xff", "||", "project\n", "needs b *\n"))
		}
		want, e := model(b.String())
		if m, got := manifest.Parse(b.String()); got != e || e == api.OK && text(m) != want || e != api.OK && !same(m, api.Manifest{}) {
			t.Fatalf("Parse(%q): %s, error %d, not error %d", b.String(), flat(m), got, e)
		}
	}
}

// Great things are refused as soon as small ones.
func TestGreatThings(t *testing.T) {
	great := strings.Repeat("a", 1<<24)
	for list := range 4 {
		mayNotBe(t, "a great name", with(list, []api.Dep{{Name: great, Range: ranged("*")}}))
		mayNotBe(t, "a great list", with(list, make([]api.Dep, 1<<20)))
		mayNotBe(t, "a great range", with(list, []api.Dep{{Name: "a", Range: make([]api.Span, 1<<20)}}))
	}
	refuses(t, great, api.ErrText)
}

// roomy is a manifest whose lists stand in the middle of more memory, at both depths: all of the memory is answered beside it.
func roomy(m api.Manifest) (roomy, memory api.Manifest) {
	mark := api.Span{Lo: version(-7, -7, -7), Hi: version(-8, -8, -8)}
	for i, l := range listsOf(&m) {
		more := []api.Dep{{Name: "ahead"}}
		for _, d := range *l {
			spans := slices.Concat([]api.Span{mark}, d.Range, []api.Span{mark, mark, mark})
			more = append(more, api.Dep{Name: d.Name, Range: spans[1 : 1+len(d.Range)]})
		}
		more = append(more, api.Dep{Name: "behind"}, api.Dep{Name: "behind"})
		*listsOf(&roomy)[i], *listsOf(&memory)[i] = more[1:1+len(*l)], more
	}
	return roomy, memory
}

// whole is a copy of a manifest's lists with the spare room of each.
func whole(m api.Manifest) api.Manifest {
	m = clone(m)
	for _, l := range listsOf(&m) {
		for i, d := range *l {
			(*l)[i].Range = slices.Clone(d.Range[:cap(d.Range)])
		}
	}
	return m
}

// R4: what is handed in stays as it is, its spare room too.
func TestHandedInStays(t *testing.T) {
	s := source(5)
	l := append(manifests()[:300], ofLength(0, 4097), with(0, deps("b", "a")), with(1, deps("a", "a")), with(2, deps(names("n", 17)...)), with(3, deps("b", "a")), api.Manifest{Deps: deps("a"), Dev: deps("a")})
	for range 300 {
		l = append(l, s.anyManifest())
	}
	for i, m := range l {
		a, memoryA := roomy(m)
		b, memoryB := roomy(l[(i+1)%len(l)])
		wantA, wantB := whole(memoryA), whole(memoryB)
		manifest.May(a)
		manifest.Print(a)
		manifest.Same(a, b)
		manifest.Same(a, a)
		if !same(whole(memoryA), wantA) || !same(whole(memoryB), wantB) {
			t.Fatalf("%s: what was handed in is changed", short(flat(m)))
		}
	}
}

// spoilDeps writes over a list and its spare room.
func spoilDeps(l []api.Dep) {
	l = l[:cap(l)]
	for i := range l {
		l[i] = api.Dep{Name: "spoilt"}
	}
}

// spoilRange writes over a range and its spare room.
func spoilRange(l []api.Span) {
	l = l[:cap(l)]
	for i := range l {
		l[i] = api.Span{Lo: version(-1, i, 0), Hi: version(-2, i, 0)}
	}
}

// spoil writes over all of a manifest's lists, at both depths.
func spoil(m api.Manifest) {
	for _, l := range listsOf(&m) {
		for _, d := range *l {
			spoilRange(d.Range)
		}
		spoilDeps(*l)
	}
}

// R4: what Parse answers is new memory, and Print does not keep what it was handed.
func TestAnswersAreNew(t *testing.T) {
	for _, m := range manifests()[:300] {
		s := text(m)
		kept, _ := manifest.Parse(s)
		other, _ := manifest.Parse(s)
		spoil(other)
		if !same(kept, m) {
			t.Fatalf("Parse(%s) shares memory with the same call", short(s))
		}
		given := clone(m)
		printed, _ := manifest.Print(given)
		spoil(given)
		if printed != s {
			t.Fatalf("Print of what is spoilt behind it: %s, not %s", short(printed), short(s))
		}
		reads(t, s, m)
		mayBe(t, short(s), m)
	}
}

// R4: no two lists of one answer share memory, their spare room neither.
func TestListsShareNothing(t *testing.T) {
	for _, m := range append(manifests()[:300], api.Manifest{Deps: deps("b", "c", "d"), Dev: deps("e", "f"), Optional: deps("g"), Overrides: deps("b", "e", "g")}) {
		s := text(m)
		got, _ := manifest.Parse(s)
		want := clone(m)
		for i, l := range listsOf(&got) {
			for j, d := range *l {
				spoilRange(d.Range)
				(*l)[j].Range, (*listsOf(&want)[i])[j].Range = nil, nil
				if !same(got, want) {
					t.Fatalf("Parse(%s): the range of %s shares memory with another list", short(s), d.Name)
				}
			}
		}
		for i, l := range listsOf(&got) {
			spoilDeps(*l)
			*l, *listsOf(&want)[i] = nil, nil
			if !same(got, want) {
				t.Fatalf("Parse(%s): what it %s shares memory with another list", short(s), listWords[i])
			}
		}
	}
}

// within tells whether a text's bytes stand in another one's memory.
func within(s, memory string) bool {
	at, from := uintptr(unsafe.Pointer(unsafe.StringData(s))), uintptr(unsafe.Pointer(unsafe.StringData(memory)))
	return at >= from && at < from+uintptr(len(memory))
}

// R4: no name of an answer stands in the memory of the text that was handed in.
func TestTextsAreNew(t *testing.T) {
	for _, m := range manifests()[:300] {
		s := text(m)
		got, _ := manifest.Parse(s)
		for _, d := range slices.Concat(got.Deps, got.Dev, got.Optional, got.Overrides) {
			if within(d.Name, s) {
				t.Fatalf("Parse(%s): the name %s stands in the text", short(s), d.Name)
			}
		}
	}
}

// R4: nil and empty lists are one.
func TestNilAndEmpty(t *testing.T) {
	none := [][]api.Dep{nil, {}, make([]api.Dep, 0, 5)}
	for _, x := range none {
		for _, y := range none {
			a, b := api.Manifest{Deps: x, Dev: y, Optional: x, Overrides: y}, api.Manifest{Deps: y, Dev: x, Optional: y, Overrides: x}
			mayBe(t, "a manifest of nothing", a)
			if !manifest.Same(a, b) || !manifest.Same(a, api.Manifest{}) {
				t.Error("nil and empty lists are not the same")
			}
		}
	}
	for list := range 4 {
		ranges := [][]api.Span{nil, {}, make([]api.Span, 0, 5)}
		for _, x := range ranges {
			mayNotBe(t, "a range of none", with(list, []api.Dep{{Name: "b", Range: x}}))
			for _, y := range ranges {
				if !manifest.Same(with(list, []api.Dep{{Name: "b", Range: x}}), with(list, []api.Dep{{Name: "b", Range: y}})) {
					t.Error("nil and empty ranges are not the same")
				}
			}
		}
	}
}

// R5: the same is answered again, whatever was asked in between and however much spare room there is.
func TestSameAgain(t *testing.T) {
	for _, m := range manifests()[:300] {
		s := text(m)
		mayBe(t, short(s), m)
		reads(t, s, m)
		refuses(t, head+"needs b *\nwants c *\n", api.ErrLine)
		refuses(t, head+"needs b *\nneeds c x\n", api.ErrRange)
		mayNotBe(t, "another one", with(0, deps("b", "a")))
		room, _ := roomy(m)
		mayBe(t, short(s), room)
		if !manifest.Same(room, m) || !manifest.Same(m, room) {
			t.Fatalf("%s with spare room is another manifest", short(s))
		}
		reads(t, s, m)
	}
}

// The limits and errors of this layer.
func TestLimits(t *testing.T) {
	if api.MaxList != 16 || api.MaxText != 4096 || api.MaxSpans != 64 || api.MaxName != 16 || api.MaxPart != 999 {
		t.Error("limits:", api.MaxList, api.MaxText, api.MaxSpans, api.MaxName, api.MaxPart)
	}
	if api.ErrRange != 21 || api.ErrLine != 22 || api.ErrName != 23 || api.ErrText != 25 {
		t.Error("errors:", api.ErrRange, api.ErrLine, api.ErrName, api.ErrText)
	}
}
