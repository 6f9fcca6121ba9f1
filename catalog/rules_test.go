package catalog_test

import (
	"fmt"
	"slices"
	"strings"
	"testing"
	"unsafe"

	"halyard/api"
	"halyard/catalog"
	"halyard/span"
)

// anyRange is a range of any numbers.
func (s *source) anyRange() []api.Span {
	l := append(noVersions(), version(0, 0, 0), version(1, 0, 0), version(2, 0, 0), version(999, 999, 999))
	var r []api.Span
	for range s.below(4) {
		r = append(r, api.Span{Lo: l[s.below(len(l))], Hi: l[s.below(len(l))]})
	}
	return r
}

// anyPackage is a package of any numbers, texts and lists.
func (s *source) anyPackage() api.Package {
	p := s.somePackage()
	switch s.below(6) {
	case 0:
		p.Name = noNames()[s.below(len(noNames()))]
	case 1:
		p.Version = noVersions()[s.below(len(noVersions()))]
	case 2, 3:
		l := listsOf(&p)[s.below(3)]
		*l = append(*l, api.Dep{Name: s.pick("a", "zz", "", "A", "\xff"), Range: s.anyRange()})
	}
	return p
}

// R1, R2: every call ends and none panics, at all arguments, and answers as the model does; beside false all else is zero.
func TestEveryCallEnds(t *testing.T) {
	s := source(5)
	for range 10 {
		c, m := s.someCatalog(100)
		for range 500 {
			p := s.anyPackage()
			if got, want := c.Put(p), m.put(p); got != want {
				t.Fatalf("Put(%s): error %d, not error %d", flat(p), got, want)
			}
			p = s.anyPackage()
			got, ok := c.Get(p.Name, p.Version)
			if want, there := m.get(p.Name, p.Version); ok != there || !same(got, want) {
				t.Fatalf("Get(%q, %v): %s, %v, not %s, %v", p.Name, p.Version, flat(got), ok, flat(want), there)
			}
			if got, want := c.Versions(p.Name), m.versions(p.Name); !slices.Equal(got, want) {
				t.Fatalf("Versions(%q): %v, not %v", p.Name, got, want)
			}
			r, l := s.anyRange(), s.somePins()
			if got, want := c.Candidates(p.Name, r, l), m.candidates(p.Name, r, l); !slices.Equal(got, want) {
				t.Fatalf("Candidates(%q, %v, %q): %v, not %v", p.Name, r, fmt.Sprint(l), got, want)
			}
		}
		holds(t, c, m)
	}
}

// Great things are taken or refused as soon as small ones.
func TestGreatThings(t *testing.T) {
	m := model(sized(127))
	c := filled(m...)
	great := strings.Repeat("a", 1<<24)
	refuses(t, c, m, api.Package{Name: great}, api.ErrPack)
	refuses(t, c, m, api.Package{Name: "z", Deps: make([]api.Dep, 1<<20)}, api.ErrPack)
	refuses(t, c, m, api.Package{Name: "z", Peers: []api.Dep{{Name: "a", Range: make([]api.Span, 1<<20)}}}, api.ErrPack)
	if _, ok := c.Get(great, version(0, 0, 0)); ok || len(c.Versions(great)) != 0 {
		t.Error("there is a package with a great name")
	}
	var l []api.Pin
	for i := range 1 << 20 {
		l = append(l, api.Pin{Name: "d", Version: version(i%1000, i/1000, 0)}, api.Pin{Name: great})
	}
	l = append(l, pins("d 1.0.7", "d 5.0.23")...)
	got := c.Candidates("d", ranged("<8.0.0"), l)
	if !slices.Equal(got, versions("5.0.23 1.0.7 7.0.31 6.0.27 4.0.19 3.0.15 2.0.11 0.0.3")) {
		t.Errorf("Candidates of many pins: %v", got)
	}
}

// roomy is a package whose lists stand in the middle of more memory, at both depths: all of the memory is answered beside it.
func roomy(p api.Package) (roomy, memory api.Package) {
	roomy, memory = p, p
	mark := api.Span{Lo: version(-7, -7, -7), Hi: version(-8, -8, -8)}
	for i, l := range listsOf(&p) {
		more := []api.Dep{{Name: "ahead"}}
		for _, d := range *l {
			spans := slices.Concat([]api.Span{mark}, d.Range, []api.Span{mark, mark, mark})
			more = append(more, api.Dep{Name: d.Name, Range: spans[1 : 1+len(d.Range)]})
		}
		more = append(more, api.Dep{Name: "behind"}, api.Dep{Name: "behind"})
		*listsOf(&roomy)[i], *listsOf(&memory)[i] = more[1:1+len(*l)], more
	}
	return roomy, memory
}

// whole is a copy of a package's lists with the spare room of each.
func whole(p api.Package) api.Package {
	p = clone(p)
	for _, l := range listsOf(&p) {
		for i, d := range *l {
			(*l)[i].Range = slices.Clone(d.Range[:cap(d.Range)])
		}
	}
	return p
}

// inRoom is a list in the middle of more memory, which is answered beside it.
func inRoom[T any](l []T, mark T) (room, memory []T) {
	memory = slices.Concat([]T{mark}, l, []T{mark, mark, mark})
	return memory[1 : 1+len(l)], memory
}

// R4: what is handed in stays as it is, its spare room too; also when what was told is written into.
func TestHandedInStays(t *testing.T) {
	s := source(6)
	c := catalog.New()
	for range 400 {
		p, memory := roomy(s.anyPackage())
		want := whole(memory)
		c.Put(p)
		c.Put(p)
		if got, ok := c.Get(p.Name, p.Version); ok {
			spoil(got)
		}
		spoilAll(c.All())
		if !same(whole(memory), want) {
			t.Fatalf("Put(%s): what was handed in is changed", flat(p))
		}
		r, spans := inRoom(ranged(s.someRange()), api.Span{Lo: version(-7, 0, 0)})
		l, some := inRoom(s.somePins(), api.Pin{Name: "mark"})
		wantSpans, wantPins := slices.Clone(spans), slices.Clone(some)
		spoilVersions(c.Candidates(p.Name, r, l))
		if !slices.Equal(spans, wantSpans) || !slices.Equal(some, wantPins) {
			t.Fatalf("Candidates(%q): what was handed in is changed", p.Name)
		}
	}
}

// R4: spare room of what was put is not told, nor kept.
func TestSpareRoomIsNotKept(t *testing.T) {
	m := model{rich("a 1.0.0"), rich("b 1.0.0")}
	c := catalog.New()
	for _, p := range m {
		room, memory := roomy(clone(p))
		c.Put(room)
		spoil(memory)
	}
	holds(t, c, m)
}

// R4: what is answered is new memory: the same call, asked again, and other calls share none with it.
func TestAnswersAreNew(t *testing.T) {
	m := model{rich("a 1.0.0"), rich("a 2.0.0"), rich("b 1.0.0"), plain("a 0.5.0")[0]}
	c := filled(m...)
	got, _ := c.Get("a", version(1, 0, 0))
	other, _ := c.Get("a", version(1, 0, 0))
	all, otherAll := c.All(), c.All()
	l, otherVersions := c.Versions("a"), c.Versions("a")
	tried, otherTried := c.Candidates("a", span.All(), pins("a 1.0.0")), c.Candidates("a", span.All(), pins("a 1.0.0"))
	check := func(what string) {
		t.Helper()
		if !same(got, m[0]) || !slices.EqualFunc(all, m.all(), same) || !slices.Equal(l, versions("2.0.0 1.0.0 0.5.0")) || !slices.Equal(tried, versions("1.0.0 2.0.0 0.5.0")) {
			t.Fatalf("behind %s: %s; %v; %v; %v", what, flat(got), all, l, tried)
		}
	}
	check("nothing")
	spoil(other)
	check("another Get")
	spoilAll(otherAll)
	check("another All")
	spoilVersions(otherVersions)
	check("other Versions")
	spoilVersions(otherTried)
	check("other Candidates")
	spoil(m.all()[0])
	holds(t, c, model{rich("a 1.0.0"), rich("a 2.0.0"), rich("b 1.0.0"), plain("a 0.5.0")[0]})
}

// R4: no two lists of one answer share memory, their spare room neither.
func TestListsShareNothing(t *testing.T) {
	shared := deps("m ^1.0.0", "n 1.0.0 || 3.0.0")
	other := deps("o", "q")
	// Each has the other one's spare room behind it, as they are handed in.
	memory := slices.Concat(shared, other)
	m := model{{Name: "a", Deps: memory[:2], Optional: memory[2:]}, {Name: "b", Peers: memory[:2]}, {Name: "b", Version: version(1, 0, 0), Peers: memory[:2], Deps: memory[2:]}, rich("c 1.0.0")}
	c := filled(m...)
	want := m.all()
	for i := range want {
		want[i] = clone(want[i])
	}
	got := c.All()
	for i := range got {
		for j, l := range listsOf(&got[i]) {
			for k, d := range *l {
				spoilRange(d.Range)
				(*l)[k].Range, (*listsOf(&want[i])[j])[k].Range = nil, nil
				if !slices.EqualFunc(got, want, same) {
					t.Fatalf("All: the range of %s of package %d shares memory with another list", d.Name, i)
				}
			}
		}
	}
	for i := range got {
		for j, l := range listsOf(&got[i]) {
			spoilDeps(*l)
			*l, *listsOf(&want[i])[j] = nil, nil
			if !slices.EqualFunc(got, want, same) {
				t.Fatalf("All: list %d of package %d shares memory with another list", j, i)
			}
		}
	}
	holds(t, c, m)
}

// stands tells where a text's bytes stand.
func stands(s string) *byte { return unsafe.StringData(s) }

// R4: no name that is told stands in the memory of what was put, or of another answer.
func TestTextsAreNew(t *testing.T) {
	texts := func(p api.Package) []string {
		l := []string{p.Name}
		for _, d := range slices.Concat(p.Deps, p.Peers, p.Optional) {
			l = append(l, d.Name)
		}
		return l
	}
	given := rich("a 1.0.0")
	c := filled(given)
	first, _ := c.Get("a", given.Version)
	second, _ := c.Get("a", given.Version)
	third := c.All()[0]
	times := map[*byte]int{}
	for _, p := range []api.Package{given, first, second, third} {
		for _, s := range texts(p) {
			times[stands(s)]++
			if times[stands(s)] > 1 {
				t.Errorf("the name %s stands where another one does", s)
			}
		}
	}
}

// R4: nil and empty lists are one.
func TestNilAndEmpty(t *testing.T) {
	none := [][]api.Dep{nil, {}, make([]api.Dep, 0, 5)}
	for _, x := range none {
		for _, y := range none {
			var m model
			c := catalog.New()
			puts(t, c, &m, api.Package{Name: "a", Deps: x, Peers: y, Optional: x})
			refuses(t, c, m, api.Package{Name: "a", Deps: y, Peers: x, Optional: y}, api.ErrThere)
			holds(t, c, plain("a 0.0.0"))
		}
	}
	c := tried()
	for _, l := range [][]api.Pin{nil, {}, make([]api.Pin, 0, 5)} {
		tries(t, c, "a", span.All(), l, triedAll)
		for _, r := range [][]api.Span{nil, {}, make([]api.Span, 0, 5)} {
			tries(t, c, "a", r, l, "")
		}
	}
}

// R5: what is told hangs on no order in which packages came, and is the same each time it is asked.
func TestSameAgain(t *testing.T) {
	s := source(7)
	_, m := s.someCatalog(120)
	for range 20 {
		l := slices.Clone(m)
		for i := range l {
			j := i + s.below(len(l)-i)
			l[i], l[j] = l[j], l[i]
		}
		c := filled(l...)
		for range 5 {
			holds(t, c, m)
			c.Put(api.Package{})
			c.Get("never", version(0, 0, 0))
			c.Candidates("a", ranged("<1.0.0"), pins("a 0.0.1"))
		}
	}
}

// Two catalogs have nothing in common, though they were given the same.
func TestTwoCatalogs(t *testing.T) {
	p := rich("a 1.0.0")
	a, b := filled(p), filled(p)
	m := model{p}
	puts(t, a, &m, rich("b 1.0.0"))
	holds(t, b, model{p})
	got, _ := a.Get("a", p.Version)
	spoil(got)
	holds(t, b, model{p})
}

// The limits and errors of this layer.
func TestLimits(t *testing.T) {
	if got := fmt.Sprint(api.MaxPackages, api.MaxSpans, api.MaxName, api.MaxPart); got != "128 64 16 999" {
		t.Error("limits:", got)
	}
	if api.OK != 0 || api.ErrThere != 11 || api.ErrPack != 24 || api.ErrFull != 26 {
		t.Error("errors:", api.ErrThere, api.ErrPack, api.ErrFull)
	}
}
