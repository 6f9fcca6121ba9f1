package wants_test

import (
	"fmt"
	"slices"
	"strconv"
	"strings"
	"testing"
	"unsafe"

	"halyard/api"
	"halyard/catalog"
	"halyard/span"
	"halyard/wants"
)

// anyDeps is Deps of any names and ranges, in any order.
func (s *source) anyDeps() []api.Dep {
	l := s.someDeps(4)
	for range s.below(3) {
		l = append(l, api.Dep{Name: s.pick(append(noNames(), few...)...), Range: noRanges()[s.below(len(noRanges()))]})
	}
	return l
}

func (s *source) anyPackage() api.Package {
	return api.Package{Name: s.pick(noNames()...), Version: noVersions()[s.below(16)], Deps: s.anyDeps(), Peers: s.anyDeps(), Optional: s.anyDeps()}
}

func (s *source) anyManifest() api.Manifest {
	return api.Manifest{Deps: s.anyDeps(), Dev: s.anyDeps(), Optional: s.anyDeps(), Overrides: s.anyDeps()}
}

// R1: every call ends and none panics, at all arguments, and answers as the model does.
func TestEveryCallEnds(t *testing.T) {
	s := source(6)
	for range 1000 {
		m := s.anyManifest()
		asModel(t, s.anyPackage(), m)
		x := s.someAsked()
		x.m = m
		c := filled(x.all...)
		for range 10 {
			p := api.Pin{Name: s.pick(append(noNames(), few...)...), Version: append(noVersions(), s.someVersion())[s.below(17)]}
			if s.below(2) == 0 {
				p = api.Pin{Name: s.someName(), Version: s.someVersion()}
			}
			x.env = append(x.env, api.Pin{Name: p.Name, Version: noVersions()[s.below(16)]})
			s.shuffle(x.env)
			got, ok := wants.Context(c, m, x.env, p)
			if want, stands := x.context(p); ok != stands || !slices.Equal(got, want) {
				t.Fatalf("Context of %q in %q: %v, %v, not %v, %v", fmt.Sprint(p), fmt.Sprint(x.env), got, ok, want, stands)
			}
		}
	}
	asModel(t, api.Package{}, api.Manifest{})
}

// Great things are answered as soon as small ones: many Deps, by many Overrides, in a great environment.
func TestGreatThings(t *testing.T) {
	const many = 1 << 17
	one, two := ranged("1.0.0"), ranged("2.0.0")
	var l, o []api.Dep
	var env []api.Pin
	for i := range many {
		name := fmt.Sprintf("n%06d", many-1-i)
		l = append(l, api.Dep{Name: name, Range: one})
		o = append(o, api.Dep{Name: name, Range: two}, api.Dep{Name: name, Range: one})
		env = append(env, api.Pin{Name: name, Version: version(2, 0, 0)}, api.Pin{Name: name, Version: version(1, 0, 0)})
	}
	m := api.Manifest{Deps: l, Dev: l, Optional: l, Overrides: o}
	for what, got := range map[string][]api.Want{"Of": wants.Of(api.Package{Deps: l, Optional: l}, m), "OfRoot without dev": wants.OfRoot(m, false)} {
		if len(got) != 2*many || got[0].Name != "n000000" || got[1].Name != "n000000" || got[1].Kind != 2 || !slices.Equal(got[5].Range, two) {
			t.Errorf("%s many: %d wants", what, len(got))
		}
	}
	if got := wants.Peers(api.Package{Peers: l}, m); len(got) != many || got[0].Name != l[0].Name || !slices.Equal(got[many-1].Range, two) {
		t.Errorf("many Peers: %d", len(got))
	}
	c := filled(packages("p 1.0.0: n000000, n000001", "n000000 2.0.0", "n000001 2.0.0: n000002", "n000002 2.0.0")...)
	got, ok := wants.Context(c, m, env, pin("p 1.0.0"))
	if !ok || !slices.Equal(got, pins("n000000 2.0.0, n000001 2.0.0, n000002 2.0.0")) {
		t.Errorf("Context in a great environment: %v, %v", got, ok)
	}
	great := strings.Repeat("a", 1<<24)
	if got := wants.Range(m, api.Dep{Name: great, Range: make([]api.Span, 1<<20)}); len(got) != 1<<20 {
		t.Errorf("a great range: %d spans", len(got))
	}
	if _, ok := wants.Context(c, m, env, api.Pin{Name: great}); ok {
		t.Error("there is a context of a great name")
	}
}

// inRoom is a list with marks in its spare room.
func inRoom[T any](l []T, mark T) []T { return slices.Concat(l, []T{mark, mark, mark})[:len(l)] }

// roomy is Deps with marks in their spare room, at both depths.
func roomy(l []api.Dep) []api.Dep {
	room := inRoom(l, api.Dep{Name: "mark"})
	for i, d := range room {
		room[i].Range = inRoom(d.Range, api.Span{Lo: version(-7, 0, 0)})
	}
	return room
}

// whole is Deps and their spare room, at both depths, as a text.
func whole(l []api.Dep) string {
	s := ""
	for _, d := range l[:cap(l)] {
		s += strconv.Quote(d.Name) + flatRange(d.Range[:cap(d.Range)])
	}
	return s
}

// spoilRange writes over a range and its spare room.
func spoilRange(l []api.Span) {
	l = l[:cap(l)]
	for i := range l {
		l[i] = api.Span{Lo: version(-1, i, 0), Hi: version(-2, i, 0)}
	}
}

// spoilWants writes over wants, their ranges, and all spare room.
func spoilWants(l []api.Want) {
	for _, w := range l {
		spoilRange(w.Range)
	}
	l = l[:cap(l)]
	for i := range l {
		l[i] = api.Want{Name: "spoilt", Kind: -1}
	}
}

// spoilDeps writes over Deps, their ranges, and all spare room.
func spoilDeps(l []api.Dep) {
	for _, d := range l {
		spoilRange(d.Range)
	}
	l = l[:cap(l)]
	for i := range l {
		l[i] = api.Dep{Name: "spoilt"}
	}
}

func spoilPins(l []api.Pin) {
	l = l[:cap(l)]
	for i := range l {
		l[i] = api.Pin{Name: "spoilt", Version: version(-1, -1, -1)}
	}
}

// spoilAll asks all that may be asked, and writes over all that is told.
func spoilAll(c *catalog.Catalog, p api.Package, m api.Manifest, env []api.Pin) {
	spoilWants(wants.Of(p, m))
	spoilWants(wants.OfRoot(m, true))
	spoilWants(wants.OfRoot(m, false))
	spoilDeps(wants.Peers(p, m))
	for _, d := range slices.Concat(p.Deps, p.Peers, p.Optional, m.Deps, m.Dev, m.Optional, m.Overrides) {
		spoilRange(wants.Range(m, d))
	}
	for _, q := range append(c.All(), p) {
		l, _ := wants.Context(c, m, env, api.Pin{Name: q.Name, Version: q.Version})
		spoilPins(l)
	}
}

// R4: what is handed in stays as it is, its spare room too, whoever writes into what was told.
func TestHandedInStays(t *testing.T) {
	s := source(7)
	for range 300 {
		x := s.someAsked()
		c := filled(x.all...)
		p, m := s.anyPackage(), s.anyManifest()
		lists := append(listsOf(&p), projectLists(&m)...)
		for _, l := range lists {
			*l = roomy(*l)
		}
		env := inRoom(x.env, api.Pin{Name: "mark"})
		look := func() string {
			text := fmt.Sprint(env[:cap(env)], c.All())
			for _, l := range lists {
				text += whole(*l)
			}
			return text
		}
		want := look()
		spoilAll(c, p, m, env)
		if got := look(); got != want {
			t.Fatalf("what was handed in is changed: %q, not %q", got, want)
		}
	}
}

// R4: what is answered is new memory: whoever writes into it changes nothing of what is told later, or was told before.
func TestAnswersAreNew(t *testing.T) {
	p := api.Package{Name: "p", Version: version(1, 0, 0), Deps: deps("b", "c 1.0.0 || 3.0.0", "b"), Peers: deps("q", "c", "b"), Optional: deps("a >=4.0.0", "c", "b 2.0.0")}
	m := api.Manifest{Deps: deps("c", "d"), Dev: deps("d", "b"), Optional: deps("b", "c"), Overrides: deps("b 1.0.0 || 2.0.0", "c <5.0.0")}
	c := filled(packages("p 1.0.0: q", "q 1.0.0: r", "r 1.0.0: p")...)
	env := pins("r 1.0.0, q 1.0.0, p 1.0.0")
	of, root, peers, r := wants.Of(p, m), wants.OfRoot(m, true), wants.Peers(p, m), wants.Range(m, p.Deps[0])
	own := wants.Range(m, p.Peers[0])
	context, _ := wants.Context(c, m, env, env[0])
	for range 2 {
		spoilAll(c, p, m, env)
		if flat(of) != flat(modelOf(p, m)) || flat(root) != flat(modelOfRoot(m, true)) || flatDeps(peers) != flatDeps(modelPeers(p, m)) {
			t.Fatalf("what was told is changed: %v; %v; %v", of, root, peers)
		}
		if !slices.Equal(r, ranged("1.0.0 || 2.0.0")) || !slices.Equal(own, span.All()) || !slices.Equal(context, pins("p 1.0.0, q 1.0.0, r 1.0.0")) {
			t.Fatalf("what was told is changed: %v; %v; %v", r, own, context)
		}
		asModel(t, p, m)
		stands(t, c, m, "r 1.0.0, q 1.0.0, p 1.0.0", "r 1.0.0", "p 1.0.0, q 1.0.0, r 1.0.0")
	}
	// What was told stays, whoever writes into what was handed in.
	want := flat(of) + flat(root) + flatDeps(peers) + flatRange(r) + flatRange(own) + fmt.Sprint(context)
	for _, l := range append(listsOf(&p), projectLists(&m)...) {
		spoilDeps(*l)
	}
	spoilPins(env)
	if got := flat(of) + flat(root) + flatDeps(peers) + flatRange(r) + flatRange(own) + fmt.Sprint(context); got != want {
		t.Errorf("what was told is changed by what was handed in: %s", got)
	}
}

// R4: no two lists of one answer share memory, their spare room neither, though all have the same Override.
func TestListsShareNothing(t *testing.T) {
	l := deps("a", "b 1.0.0", "a 3.0.0", "b")
	// All Deps of c have one range, with spare room behind it, as they are handed in.
	shared := append(make([]api.Span, 0, 9), ranged("1.0.0 || 5.0.0")...)
	for range 3 {
		l = append(l, api.Dep{Name: "c", Range: shared})
	}
	m := api.Manifest{Deps: l, Dev: l, Optional: l, Overrides: deps("a 1.0.0 || 2.0.0", "b 4.0.0")}
	p := api.Package{Deps: l, Peers: l, Optional: l}
	for what, got := range map[string][]api.Want{"Of": wants.Of(p, m), "OfRoot": wants.OfRoot(m, true)} {
		want := flat(got)
		for i, w := range got {
			kept := slices.Clone(w.Range)
			spoilRange(w.Range)
			got[i].Range = kept
			if flat(got) != want {
				t.Fatalf("%s: the range of want %d shares memory with another one", what, i)
			}
		}
	}
	got := wants.Peers(p, m)
	want := flatDeps(got)
	for i, d := range got {
		kept := slices.Clone(d.Range)
		spoilRange(d.Range)
		got[i].Range = kept
		if flatDeps(got) != want {
			t.Fatalf("Peers: the range of %d shares memory with another one", i)
		}
	}
}

// R4: no name that is told stands in the memory of what was handed in, or of another answer.
func TestTextsAreNew(t *testing.T) {
	p := api.Package{Deps: deps("a", "b"), Peers: deps("c", "d"), Optional: deps("e")}
	m := api.Manifest{Deps: deps("a", "f"), Dev: deps("g"), Optional: deps("h"), Overrides: deps("a", "b", "c")}
	given := packages("p 1.0.0: q, r", "q 1.0.0", "r 1.0.0: p")
	c := filled(given...)
	env := pins("p 1.0.0, q 1.0.0, r 1.0.0")
	times := map[*byte]int{}
	for _, d := range slices.Concat(p.Deps, p.Peers, p.Optional, m.Deps, m.Dev, m.Optional, m.Overrides, given[0].Peers, given[2].Peers) {
		times[unsafe.StringData(d.Name)]++
	}
	for _, n := range env {
		times[unsafe.StringData(n.Name)]++
	}
	var texts []string
	for range 2 {
		for _, w := range slices.Concat(wants.Of(p, m), wants.OfRoot(m, true)) {
			texts = append(texts, w.Name)
		}
		for _, d := range wants.Peers(p, m) {
			texts = append(texts, d.Name)
		}
		context, _ := wants.Context(c, m, env, env[0])
		for _, n := range context {
			texts = append(texts, n.Name)
		}
	}
	for _, s := range texts {
		at := unsafe.StringData(s)
		if times[at] > 0 {
			t.Errorf("the name %s stands where another one does", s)
		}
		times[at]++
	}
}

// R4: nil and empty lists are one.
func TestNilAndEmpty(t *testing.T) {
	c := filled(packages("p 1.0.0: q", "q 1.0.0")...)
	for _, l := range [][]api.Dep{nil, {}, make([]api.Dep, 0, 5)} {
		m, p := api.Manifest{Deps: l, Dev: l, Optional: l, Overrides: l}, api.Package{Deps: l, Peers: l, Optional: l}
		if len(wants.Of(p, m))+len(wants.OfRoot(m, true))+len(wants.OfRoot(m, false))+len(wants.Peers(p, m)) != 0 {
			t.Error("wants of nothing")
		}
		stands(t, c, m, "q 1.0.0", "p 1.0.0", "q 1.0.0")
		for _, env := range [][]api.Pin{nil, {}, make([]api.Pin, 0, 5)} {
			if got, ok := wants.Context(c, m, env, pin("q 1.0.0")); !ok || len(got) != 0 {
				t.Errorf("Context of q in an empty environment: %v, %v", got, ok)
			}
			if got, ok := wants.Context(c, m, env, pin("p 1.0.0")); ok || len(got) != 0 {
				t.Errorf("Context of p in an empty environment: %v, %v", got, ok)
			}
		}
	}
	for _, r := range [][]api.Span{nil, {}, make([]api.Span, 0, 5)} {
		d := api.Dep{Name: "q", Range: r}
		m := api.Manifest{Overrides: []api.Dep{d}}
		if len(wants.Range(none, d))+len(wants.Range(m, deps("q")[0])) != 0 {
			t.Error("the range of none has spans")
		}
		falls(t, c, m, "q 1.0.0", "p 1.0.0")
	}
}

// R5: what is told hangs on no order in which packages came, and is the same each time it is asked.
func TestSameAgain(t *testing.T) {
	s := source(8)
	for range 100 {
		x := s.someAsked()
		p, m := s.anyPackage(), s.anyManifest()
		first := filled(x.all...)
		slices.Reverse(x.all)
		second := filled(x.all...)
		var texts []string
		for _, c := range []*catalog.Catalog{first, second, first} {
			text := flat(wants.Of(p, m)) + flat(wants.OfRoot(m, true)) + flatDeps(wants.Peers(p, m))
			for _, q := range x.all {
				l, ok := wants.Context(c, x.m, x.env, api.Pin{Name: q.Name, Version: q.Version})
				text += fmt.Sprint(l, ok)
			}
			texts = append(texts, text)
		}
		if texts[1] != texts[0] || texts[2] != texts[0] {
			t.Fatalf("%q", texts)
		}
	}
}
