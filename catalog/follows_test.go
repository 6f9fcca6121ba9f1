package catalog_test

import (
	"fmt"
	"slices"
	"testing"

	"halyard/api"
	"halyard/catalog"
	"halyard/span"
)

// spoilDeps writes over a list and its spare room.
func spoilDeps(l []api.Dep) {
	l = l[:cap(l)]
	for i := range l {
		l[i] = api.Dep{Name: "spoilt"}
	}
}

// spoilRange writes over a range and its spare room.
func spoilRange(l []api.Span) {
	l = l[:cap(l)]
	for i := range l {
		l[i] = api.Span{Lo: version(-1, i, 0), Hi: version(-2, i, 0)}
	}
}

// spoil writes over all of a package's lists, at both depths.
func spoil(p api.Package) {
	for _, l := range listsOf(&p) {
		for _, d := range *l {
			spoilRange(d.Range)
		}
		spoilDeps(*l)
	}
}

// spoilAll writes over packages and over what they have.
func spoilAll(l []api.Package) {
	for _, p := range l {
		spoil(p)
	}
	l = l[:cap(l)]
	for i := range l {
		l[i] = api.Package{Name: "spoilt"}
	}
}

// spoilVersions writes over versions and their spare room.
func spoilVersions(l []api.Version) {
	l = l[:cap(l)]
	for i := range l {
		l[i] = version(-1, -1, -1)
	}
}

// What is there is told as it was put, whoever writes into what was handed in.
func TestToldAsPut(t *testing.T) {
	c := catalog.New()
	var m model
	for _, p := range []api.Package{rich("a 1.0.0"), rich("a 2.0.0"), plain("a 3.0.0")[0], rich("b 1.0.0")} {
		given := clone(p)
		puts(t, c, &m, given)
		spoil(given)
		holds(t, c, m)
		refused := clone(p)
		c.Put(refused)
		spoil(refused)
		holds(t, c, m)
	}
}

// What is there is told as it was put, whoever writes into what was told.
func TestToldAgain(t *testing.T) {
	m := model{rich("a 1.0.0"), rich("a 2.0.0"), plain("a 3.0.0")[0], rich("b 1.0.0"), rich("a 0.1.0")}
	c := filled(m...)
	for range 2 {
		for _, p := range m {
			got, _ := c.Get(p.Name, p.Version)
			spoil(got)
			holds(t, c, m)
		}
		spoilAll(c.All())
		holds(t, c, m)
		spoilVersions(c.Versions("a"))
		holds(t, c, m)
		for _, l := range [][]api.Pin{nil, pins("a 1.0.0"), pins("a 1.0.0", "a 2.0.0", "a 3.0.0", "a 0.1.0")} {
			spoilVersions(c.Candidates("a", span.All(), l))
			holds(t, c, m)
		}
	}
}

// Candidates without pins are the versions in the range.
func TestCandidatesWithoutPins(t *testing.T) {
	s := source(2)
	for range 300 {
		c, _ := s.someCatalog(20)
		name, r := s.someName(), ranged(s.someRange())
		want := slices.DeleteFunc(c.Versions(name), func(v api.Version) bool { return !span.In(r, v) })
		for _, l := range [][]api.Pin{nil, {}} {
			if got := c.Candidates(name, r, l); !slices.Equal(got, want) {
				t.Fatalf("Candidates(%q, %v) without pins: %v, not %v", name, r, got, want)
			}
		}
	}
}

// Pins change the candidates' order alone.
func TestPinsChangeOrderAlone(t *testing.T) {
	s := source(3)
	changed := 0
	for range 300 {
		c, _ := s.someCatalog(100)
		name, r := s.someName(), ranged(s.someRange())
		want, got := c.Candidates(name, r, nil), c.Candidates(name, r, slices.Concat(s.somePins(), s.somePins(), s.somePins()))
		if !slices.Equal(got, want) {
			changed++
		}
		slices.SortFunc(got, func(a, b api.Version) int {
			if before(api.Package{Version: a}, api.Package{Version: b}) {
				return -1
			}
			return 1
		})
		if !slices.Equal(got, want) {
			t.Fatalf("Candidates(%q, %v) with pins: %v, without: %v", name, r, got, want)
		}
	}
	if changed < 30 {
		t.Errorf("the order was changed %d times", changed)
	}
}

// someCatalog is a catalog with at most so many packages, and its model.
func (s *source) someCatalog(most int) (*catalog.Catalog, model) {
	c := catalog.New()
	var m model
	for range s.below(most + 1) {
		p := s.somePackage()
		c.Put(p)
		m.put(p)
	}
	return c, m
}

// P8.1 to P8.3: a catalog answers as the model does, whatever it is asked, in whichever order.
func TestAsModel(t *testing.T) {
	s := source(4)
	met := map[api.Errno]int{}
	for range 12 {
		c, m := s.someCatalog(10)
		for range 400 {
			p := s.somePackage()
			if s.below(8) == 0 {
				p.Deps = append(p.Deps, deps("a")...)
			}
			want := m.put(p)
			met[want]++
			if e := c.Put(p); e != want {
				t.Fatalf("Put(%s): error %d, not error %d", flat(p), e, want)
			}
			name, r, l := s.someName(), ranged(s.someRange()), s.somePins()
			if got, want := c.Candidates(name, r, l), m.candidates(name, r, l); !slices.Equal(got, want) {
				t.Fatalf("Candidates(%q, %v, %q): %v, not %v", name, r, fmt.Sprint(l), got, want)
			}
			if s.below(10) == 0 {
				holds(t, c, m)
			}
		}
		holds(t, c, m)
	}
	for _, e := range []api.Errno{api.OK, api.ErrPack, api.ErrThere, api.ErrFull} {
		if met[e] < 50 {
			t.Errorf("error %d was met %d times", e, met[e])
		}
	}
}
