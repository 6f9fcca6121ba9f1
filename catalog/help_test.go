package catalog_test

import (
	"fmt"
	"math"
	"slices"
	"strconv"
	"strings"
	"testing"

	"halyard/api"
	"halyard/catalog"
	"halyard/pack"
	"halyard/span"
)

func version(major, minor, patch int) api.Version {
	return api.Version{Major: major, Minor: minor, Patch: patch}
}

// numbers is the version of a text of the tests.
func numbers(s string) api.Version {
	var v api.Version
	if _, err := fmt.Sscanf(s, "%d.%d.%d", &v.Major, &v.Minor, &v.Patch); err != nil {
		panic(s)
	}
	return v
}

// versions is the versions of a text, with a blank between each two.
func versions(s string) []api.Version {
	var l []api.Version
	for _, word := range strings.Fields(s) {
		l = append(l, numbers(word))
	}
	return l
}

// ranged is the range of a text of the tests.
func ranged(text string) []api.Span {
	l, e := span.Parse(text)
	if e != api.OK {
		panic(text)
	}
	return l
}

// deps is a list: each text is a name, and perhaps a range behind a blank; else it is all versions.
func deps(texts ...string) []api.Dep {
	var l []api.Dep
	for _, s := range texts {
		name, text, some := strings.Cut(s, " ")
		if !some {
			text = "*"
		}
		l = append(l, api.Dep{Name: name, Range: ranged(text)})
	}
	return l
}

// pins is a list of pins, each text a name and a version.
func pins(texts ...string) []api.Pin {
	var l []api.Pin
	for _, s := range texts {
		name, v, _ := strings.Cut(s, " ")
		l = append(l, api.Pin{Name: name, Version: numbers(v)})
	}
	return l
}

// plain is packages without lists, each text a name and a version.
func plain(texts ...string) []api.Package {
	var l []api.Package
	for _, p := range pins(texts...) {
		l = append(l, api.Package{Name: p.Name, Version: p.Version})
	}
	return l
}

// rich is a package with something in each list.
func rich(s string) api.Package {
	p := plain(s)[0]
	p.Deps, p.Peers, p.Optional = deps("b ^1.0.0", "d 1.0.0 || 3.0.0 || 5.0.0"), deps("c", "e <2.0.0"), deps("a >=4.0.0", "f 1.5.0", "g ~0.3.1")
	return p
}

func listsOf(p *api.Package) []*[]api.Dep { return []*[]api.Dep{&p.Deps, &p.Peers, &p.Optional} }

// filled is a catalog with those packages.
func filled(l ...api.Package) *catalog.Catalog {
	c := catalog.New()
	for _, p := range l {
		if e := c.Put(p); e != api.OK {
			panic(flat(p))
		}
	}
	return c
}

// sized is so many packages, of four names.
func sized(count int) []api.Package {
	var l []api.Package
	for i := range count {
		l = append(l, api.Package{Name: []string{"a", "b", "c", "d"}[i%4], Version: version(i/4, 0, i)})
	}
	return l
}

// flat is all that a package has, whether it may be or not, as one text.
func flat(p api.Package) string {
	s := strconv.Quote(p.Name) + fmt.Sprint(p.Version)
	for _, l := range listsOf(&p) {
		s += "["
		for _, d := range *l {
			s += "{" + strconv.Quote(d.Name)
			for _, x := range d.Range {
				s += fmt.Sprint(x)
			}
			s += "}"
		}
		s += "]"
	}
	return s
}

// same tells whether two packages are the same, by the tests' own means; nil and empty lists are one.
func same(a, b api.Package) bool { return flat(a) == flat(b) }

// clone is a package in memory of its own, at every depth.
func clone(p api.Package) api.Package {
	for _, l := range listsOf(&p) {
		*l = slices.Clone(*l)
		for i := range *l {
			(*l)[i].Range = slices.Clone((*l)[i].Range)
		}
	}
	return p
}

// short cuts a text that is too long to tell.
func short(s string) string {
	if len(s) > 160 {
		return s[:160] + " and so on"
	}
	return s
}

// model is what a catalog must be, by the tests' own means: packages, in the order in which they came.
type model []api.Package

func (m *model) put(p api.Package) api.Errno {
	if !pack.May(p) {
		return api.ErrPack
	}
	if _, there := m.get(p.Name, p.Version); there {
		return api.ErrThere
	}
	if len(*m) == 128 {
		return api.ErrFull
	}
	*m = append(*m, clone(p))
	return api.OK
}

func (m model) get(name string, v api.Version) (api.Package, bool) {
	for _, p := range m {
		if p.Name == name && p.Version == v {
			return p, true
		}
	}
	return api.Package{}, false
}

// before tells whether a package is told ahead of another one.
func before(a, b api.Package) bool {
	if a.Name != b.Name {
		return slices.Compare([]byte(a.Name), []byte(b.Name)) < 0
	}
	number := func(v api.Version) int { return v.Major*1000000 + v.Minor*1000 + v.Patch }
	return number(a.Version) > number(b.Version)
}

// all puts each package ahead of the first one that it goes before.
func (m model) all() []api.Package {
	var l []api.Package
	for _, p := range m {
		at := 0
		for at < len(l) && before(l[at], p) {
			at++
		}
		l = slices.Insert(l, at, p)
	}
	return l
}

func (m model) versions(name string) []api.Version {
	var l []api.Version
	for _, p := range m.all() {
		if p.Name == name {
			l = append(l, p.Version)
		}
	}
	return l
}

// candidates goes through the versions twice: for those in pins, and for the others.
func (m model) candidates(name string, r []api.Span, l []api.Pin) []api.Version {
	var out []api.Version
	for _, want := range []bool{true, false} {
		for _, v := range m.versions(name) {
			if span.In(r, v) && slices.Contains(l, api.Pin{Name: name, Version: v}) == want {
				out = append(out, v)
			}
		}
	}
	return out
}

// holds tells a fault unless a catalog tells just what a model tells, of all that is there, and of some that may not be there.
func holds(t *testing.T, c *catalog.Catalog, m model) {
	t.Helper()
	all := m.all()
	if got := c.All(); !slices.EqualFunc(got, all, same) {
		t.Fatalf("All: %d packages %s, not %d: %s", len(got), short(fmt.Sprint(got)), len(all), short(fmt.Sprint(all)))
	}
	name := ""
	for _, p := range append(all, plain("a 1.0.0", "b 999.999.999", "never 0.0.0", "zz 1.2.3")...) {
		want, there := m.get(p.Name, p.Version)
		if got, ok := c.Get(p.Name, p.Version); ok != there || !same(got, want) {
			t.Fatalf("Get(%q, %v): %s, %v, not %s, %v", p.Name, p.Version, short(flat(got)), ok, short(flat(want)), there)
		}
		if p.Name == name {
			continue
		}
		name = p.Name
		l := m.versions(name)
		if got := c.Versions(name); !slices.Equal(got, l) {
			t.Fatalf("Versions(%q): %v, not %v", name, got, l)
		}
		if got := c.Candidates(name, span.All(), nil); !slices.Equal(got, l) {
			t.Fatalf("Candidates(%q) of all: %v, not %v", name, got, l)
		}
	}
}

// puts tells a fault unless a package is taken, and the catalog has it from now on beside what it had.
func puts(t *testing.T, c *catalog.Catalog, m *model, p api.Package) {
	t.Helper()
	if e := m.put(p); e != api.OK {
		t.Fatalf("the test is wrong: %s: error %d", short(flat(p)), e)
	}
	if e := c.Put(p); e != api.OK {
		t.Errorf("Put(%s): error %d", short(flat(p)), e)
	}
	holds(t, c, *m)
}

// refuses tells a fault unless a package is refused, by just that error, and the catalog has what it had.
func refuses(t *testing.T, c *catalog.Catalog, m model, p api.Package, want api.Errno) {
	t.Helper()
	if e := c.Put(p); e != want {
		t.Errorf("Put(%s): error %d, not error %d", short(flat(p)), e, want)
	}
	holds(t, c, m)
}

// tries tells a fault unless just those candidates are told, in that order.
func tries(t *testing.T, c *catalog.Catalog, name string, r []api.Span, l []api.Pin, want string) {
	t.Helper()
	if got := c.Candidates(name, r, l); !slices.Equal(got, versions(want)) {
		t.Errorf("Candidates(%q, %s, %q): %v, not %s", name, short(fmt.Sprint(r)), short(fmt.Sprint(l)), got, want)
	}
}

// source is numbers that look like chance, and are the same each time.
type source uint64

func (s *source) below(n int) int {
	*s = *s*6364136223846793005 + 1442695040888963407
	return int(uint64(*s) >> 33 % uint64(n))
}

func (s *source) pick(texts ...string) string { return texts[s.below(len(texts))] }

func (s *source) someName() string { return s.pick("a", "a-b", "a0", "aa", "b") }

// someVersion is one of few, so that names and versions are met again.
func (s *source) someVersion() api.Version {
	l := []int{0, 1, 2, 10, 999}
	return version(l[s.below(5)], l[s.below(2)], l[s.below(3)])
}

// somePackage is a package that may be, with lists or without.
func (s *source) somePackage() api.Package {
	p := api.Package{Name: s.someName(), Version: s.someVersion()}
	for i, l := range listsOf(&p) {
		for j := range s.below(4) {
			*l = append(*l, deps(fmt.Sprintf("n%d%d %s", i, j, s.someRange()))...)
		}
	}
	return p
}

// someRange is the text of a range, not that of none.
func (s *source) someRange() string {
	return s.pick("*", "1.0.0", "<2.0.0", ">2.0.0", ">=1.0.0 <2.0.0", "^1.0.0", "~2.1.0", "1.0.0 || 2.0.0 || >=10.0.0", "<=1.1.2 || >2.0.1")
}

// somePins is pins of some names and versions, in any order, also such as stand twice or may not be.
func (s *source) somePins() []api.Pin {
	var l []api.Pin
	for range s.below(8) {
		p := api.Pin{Name: s.someName(), Version: s.someVersion()}
		l = append(l, p)
		if s.below(4) == 0 {
			l = append(l, p, api.Pin{Name: s.pick("", "A", "\xff", "a "), Version: p.Version}, api.Pin{Name: p.Name, Version: version(-1, 0, 1000)})
		}
	}
	return l
}

// noNames is names that may not be.
func noNames() []string {
	return []string{"", "A", "aB", "1a", "-a", "a_b", "a.b", "a b", " a", "a ", "a\n", "\x00", "\xff", "\u00e9", "abcdefghijklmnopq", strings.Repeat("a", 5000)}
}

// noVersions is versions that may not be.
func noVersions() []api.Version {
	var l []api.Version
	for _, n := range []int{-1, 1000, math.MinInt, math.MaxInt} {
		l = append(l, version(n, 0, 0), version(0, n, 0), version(0, 0, n), version(999, n, 999))
	}
	return l
}

// noRanges is ranges that may not be, though versions stand between their ends.
func noRanges() [][]api.Span {
	first, one, two, last := version(0, 0, 0), version(1, 0, 0), version(2, 0, 0), version(999, 999, 999)
	var many []api.Span
	for i := range 65 {
		many = append(many, api.Span{Lo: version(i, 0, 0), Hi: version(i, 5, 0)})
	}
	l := [][]api.Span{{{Lo: two, Hi: one}}, {{Lo: first, Hi: one}, {Lo: version(1, 0, 1), Hi: last}}, {{Lo: one, Hi: last}, {Lo: first, Hi: first}}, {{Lo: first, Hi: last}, {Lo: first, Hi: last}}, many}
	for _, v := range noVersions() {
		l = append(l, []api.Span{{Lo: first, Hi: last}, {Lo: v, Hi: v}}, []api.Span{{Lo: v, Hi: last}}, []api.Span{{Lo: first, Hi: v}})
	}
	return l
}

// noPackages is packages that may not be, by what is wrong with them.
func noPackages() map[string]api.Package {
	full := plain("a 1.0.0")[0]
	for i := range 17 {
		full.Deps = append(full.Deps, deps(fmt.Sprintf("n%02d", i))...)
	}
	long := plain("a 1.0.0")[0]
	for i := range 16 {
		d := api.Dep{Name: fmt.Sprintf("n%014d", i)}
		for j := range 64 {
			v := version(100, 100, 100+2*j)
			d.Range = append(d.Range, api.Span{Lo: v, Hi: v})
		}
		long.Optional = append(long.Optional, d)
	}
	at := plain("a 1.0.0")[0]
	with := func(f func(*api.Package)) api.Package {
		p := clone(at)
		f(&p)
		return p
	}
	l := map[string]api.Package{
		"the zero package":        {},
		"a version alone":         {Version: version(1, 0, 0)},
		"17 Deps":                 full,
		"too long a text":         long,
		"names that fall":         with(func(p *api.Package) { p.Deps = deps("c", "b") }),
		"a name in two lists":     with(func(p *api.Package) { p.Deps, p.Peers = deps("b"), deps("b") }),
		"a name twice":            with(func(p *api.Package) { p.Optional = deps("b", "b") }),
		"the range of none":       with(func(p *api.Package) { p.Peers = []api.Dep{{Name: "b"}} }),
		"a name that may not be":  with(func(p *api.Package) { p.Peers = deps("B") }),
		"a range that may not be": with(func(p *api.Package) { p.Optional = []api.Dep{{Name: "b", Range: noRanges()[0]}} }),
	}
	for _, name := range noNames() {
		l["the name "+short(name)] = api.Package{Name: name, Version: version(1, 0, 0)}
	}
	for _, v := range noVersions() {
		l["the version "+fmt.Sprint(v)] = api.Package{Name: "a", Version: v}
	}
	return l
}
