package wants_test

import (
	"fmt"
	"math"
	"slices"
	"strconv"
	"strings"
	"testing"

	"halyard/api"
	"halyard/catalog"
	"halyard/span"
	"halyard/wants"
)

func version(major, minor, patch int) api.Version {
	return api.Version{Major: major, Minor: minor, Patch: patch}
}

// numbers is the version of a text of the tests.
func numbers(s string) api.Version {
	var v api.Version
	if _, err := fmt.Sscanf(s, "%d.%d.%d", &v.Major, &v.Minor, &v.Patch); err != nil {
		panic(s)
	}
	return v
}

// ranged is the range of a text of the tests.
func ranged(text string) []api.Span {
	l, e := span.Parse(text)
	if e != api.OK {
		panic(text)
	}
	return l
}

// deps is a list: each text is a name, and perhaps a range behind a blank; else it is all versions.
func deps(texts ...string) []api.Dep {
	var l []api.Dep
	for _, s := range texts {
		name, text, some := strings.Cut(s, " ")
		if !some {
			text = "*"
		}
		l = append(l, api.Dep{Name: name, Range: ranged(text)})
	}
	return l
}

// pin is a name and a version.
func pin(s string) api.Pin {
	name, v, _ := strings.Cut(s, " ")
	return api.Pin{Name: name, Version: numbers(v)}
}

// pins is the pins of a text, with `, ` between each two; the empty text is none.
func pins(text string) []api.Pin {
	var l []api.Pin
	for s := range strings.SplitSeq(text, ", ") {
		if s != "" {
			l = append(l, pin(s))
		}
	}
	return l
}

// over is a manifest with those Overrides alone.
func over(texts ...string) api.Manifest { return api.Manifest{Overrides: deps(texts...)} }

// packages is packages with Peers alone, as `p 1.0.0: q ^1.0.0, r *`.
func packages(texts ...string) []api.Package {
	var l []api.Package
	for _, s := range texts {
		at, peers, some := strings.Cut(s, ": ")
		p := pin(at)
		var list []api.Dep
		if some {
			list = deps(strings.Split(peers, ", ")...)
		}
		l = append(l, api.Package{Name: p.Name, Version: p.Version, Peers: list})
	}
	return l
}

// filled is a catalog with those packages.
func filled(l ...api.Package) *catalog.Catalog {
	c := catalog.New()
	for _, p := range l {
		if e := c.Put(p); e != api.OK {
			panic(fmt.Sprint(p))
		}
	}
	return c
}

func listsOf(p *api.Package) []*[]api.Dep { return []*[]api.Dep{&p.Deps, &p.Peers, &p.Optional} }

func projectLists(m *api.Manifest) []*[]api.Dep {
	return []*[]api.Dep{&m.Deps, &m.Dev, &m.Optional, &m.Overrides}
}

// flatRange is a range, be it such as may be or not, as a text; nil and empty are one.
func flatRange(l []api.Span) string {
	s := ""
	for _, x := range l {
		s += fmt.Sprint(x)
	}
	return s
}

// flatDeps is a list, be it such as may be or not, as a text.
func flatDeps(l []api.Dep) string {
	s := ""
	for _, d := range l {
		s += "{" + strconv.Quote(d.Name) + flatRange(d.Range) + "}"
	}
	return s
}

// flat is wants as a text.
func flat(l []api.Want) string {
	s := ""
	for _, w := range l {
		s += "{" + strconv.Quote(w.Name) + strconv.Itoa(w.Kind) + flatRange(w.Range) + "}"
	}
	return s
}

// told is wants as tests write them: `a must ^1.0.0, b may *`.
func told(l []api.Want) string {
	var texts []string
	for _, w := range l {
		kind := map[int]string{1: "must", 2: "may"}[w.Kind]
		texts = append(texts, w.Name+" "+kind+" "+span.Print(w.Range))
	}
	return strings.Join(texts, ", ")
}

// short cuts a text that is too long to tell.
func short(s string) string {
	if len(s) > 200 {
		return s[:200] + " and so on"
	}
	return s
}

// tells tells a fault unless wants are just those.
func tells(t *testing.T, what string, got []api.Want, want string) {
	t.Helper()
	if told(got) != want {
		t.Errorf("%s: %s, not %s", what, short(told(got)), short(want))
	}
}

// stands tells a fault unless the context of a package stands, and is just that.
func stands(t *testing.T, c *catalog.Catalog, m api.Manifest, env, p, want string) {
	t.Helper()
	if got, ok := wants.Context(c, m, pins(env), pin(p)); !ok || !slices.Equal(got, pins(want)) {
		t.Errorf("Context of %s in (%s): %v, %v, not (%s)", p, env, got, ok, want)
	}
}

// falls tells a fault unless the context of a package does not stand.
func falls(t *testing.T, c *catalog.Catalog, m api.Manifest, env, p string) {
	t.Helper()
	if got, ok := wants.Context(c, m, pins(env), pin(p)); ok || len(got) != 0 {
		t.Errorf("Context of %s in (%s): %v, %v, though it does not stand", p, env, got, ok)
	}
}

// The model: each promise by the tests' own means, as near to its words as may be.

func modelRange(m api.Manifest, d api.Dep) []api.Span {
	for _, o := range m.Overrides {
		if o.Name == d.Name {
			return o.Range
		}
	}
	return d.Range
}

// modelWants puts each Dep ahead of the first one whose name is greater.
func modelWants(m api.Manifest, must, may []api.Dep) []api.Want {
	var l []api.Want
	for i, d := range slices.Concat(must, may) {
		w := api.Want{Name: d.Name, Kind: 1, Range: modelRange(m, d)}
		if i >= len(must) {
			w.Kind = 2
		}
		at := 0
		for at < len(l) && slices.Compare([]byte(l[at].Name), []byte(w.Name)) <= 0 {
			at++
		}
		l = slices.Insert(l, at, w)
	}
	return l
}

func modelOf(p api.Package, m api.Manifest) []api.Want { return modelWants(m, p.Deps, p.Optional) }

func modelOfRoot(m api.Manifest, dev bool) []api.Want {
	if !dev {
		return modelWants(m, m.Deps, m.Optional)
	}
	return modelWants(m, slices.Concat(m.Deps, m.Dev), m.Optional)
}

func modelPeers(p api.Package, m api.Manifest) []api.Dep {
	var l []api.Dep
	for _, d := range p.Peers {
		l = append(l, api.Dep{Name: d.Name, Range: modelRange(m, d)})
	}
	return l
}

// few is all names that packages and environments of the model have.
var few = []string{"a", "a-b", "a0", "aa", "b"}

// asked is what the model of contexts is asked.
type asked struct {
	all []api.Package
	m   api.Manifest
	env []api.Pin
}

func (x asked) find(p api.Pin) (api.Package, bool) {
	i := slices.IndexFunc(x.all, func(q api.Package) bool { return q.Name == p.Name && q.Version == p.Version })
	if i < 0 {
		return api.Package{}, false
	}
	return x.all[i], true
}

// beside is what an environment tells of a name.
func (x asked) beside(name string) (api.Pin, bool) {
	i := slices.IndexFunc(x.env, func(p api.Pin) bool { return p.Name == name })
	if i < 0 {
		return api.Pin{}, false
	}
	return x.env[i], true
}

// peers is Peers of a package, by their numbers, as a set.
func (x asked) peers(p api.Pin) int {
	set := 0
	found, _ := x.find(p)
	for _, d := range found.Peers {
		set |= 1 << slices.Index(few, d.Name)
	}
	return set
}

// closed tells whether a set has all that it must have.
func (x asked) closed(set int, p api.Pin) bool {
	must := x.peers(p)
	for i, name := range few {
		if n, some := x.beside(name); some && set>>i&1 == 1 {
			must |= x.peers(n)
		}
	}
	return must&^set == 0
}

// fits tells whether a package is there, and its Peers are in their ranges.
func (x asked) fits(p api.Pin) bool {
	found, there := x.find(p)
	for _, d := range modelPeers(found, x.m) {
		n, some := x.beside(d.Name)
		there = there && some && span.In(d.Range, n.Version)
	}
	return there
}

// context: what all sets that have what they must have in common is the least of them.
func (x asked) context(p api.Pin) ([]api.Pin, bool) {
	least := 1<<len(few) - 1
	for set := range least + 1 {
		if x.closed(set, p) {
			least &= set
		}
	}
	ok := x.fits(p)
	var l []api.Pin
	for i, name := range few {
		if least>>i&1 == 0 {
			continue
		}
		n, some := x.beside(name)
		ok = ok && some && x.fits(n)
		l = append(l, n)
	}
	if !ok {
		return nil, false
	}
	return l, true
}

// source is numbers that look like chance, and are the same each time.
type source uint64

func (s *source) below(n int) int {
	*s = *s*6364136223846793005 + 1442695040888963407
	return int(uint64(*s) >> 33 % uint64(n))
}

func (s *source) pick(texts ...string) string { return texts[s.below(len(texts))] }

func (s *source) someName() string { return s.pick(few...) }

func (s *source) someVersion() api.Version { return version(1+s.below(3), 0, 0) }

// someRange is the text of a range that most versions are in.
func (s *source) someRange() string {
	return s.pick("*", "*", "<=2.0.0", ">=2.0.0", "1.0.0 || 3.0.0", "^1.0.0 || ^2.0.0", "2.0.0")
}

// someDeps is Deps of some names, in any order, also such as stand twice.
func (s *source) someDeps(most int) []api.Dep {
	var l []api.Dep
	for range s.below(most + 1) {
		l = append(l, deps(s.someName()+" "+s.someRange())...)
	}
	return l
}

// someAsked is packages that may be, Peers of one another, with a manifest and an environment of most names.
func (s *source) someAsked() asked {
	var x asked
	for _, name := range few {
		for major := range 3 {
			p := api.Package{Name: name, Version: version(1+major, 0, 0)}
			for _, n := range few {
				if s.below(4) == 0 {
					p.Peers = append(p.Peers, deps(n+" "+s.someRange())...)
				}
			}
			if s.below(12) > 0 {
				x.all = append(x.all, p)
			}
		}
	}
	if s.below(2) == 0 {
		x.m = api.Manifest{Deps: s.someDeps(3), Overrides: s.someDeps(2)}
	}
	x.env = s.someEnv()
	return x
}

func (s *source) someEnv() []api.Pin {
	var l []api.Pin
	for _, name := range few {
		if s.below(12) > 0 {
			l = append(l, api.Pin{Name: name, Version: s.someVersion()})
		}
	}
	for range s.below(4) {
		l = append(l, api.Pin{Name: s.someName(), Version: s.someVersion()}, api.Pin{Name: s.pick("", "A", "a.", "z"), Version: s.someVersion()})
	}
	s.shuffle(l)
	return l
}

func (s *source) shuffle(l []api.Pin) {
	for i := range l {
		j := i + s.below(len(l)-i)
		l[i], l[j] = l[j], l[i]
	}
}

// noNames is names that may not be.
func noNames() []string {
	return []string{"", "A", "aB", "1a", "-a", "a_b", "a.b", "a b", " a", "a\n", "\x00", "\xff", "\u00e9", "abcdefghijklmnopq", strings.Repeat("a", 5000)}
}

// noVersions is versions that may not be.
func noVersions() []api.Version {
	var l []api.Version
	for _, n := range []int{-1, 1000, math.MinInt, math.MaxInt} {
		l = append(l, version(n, 0, 0), version(0, n, 0), version(0, 0, n), version(999, n, 999))
	}
	return l
}

// noRanges is ranges that may not be, though versions stand between their ends.
func noRanges() [][]api.Span {
	first, one, two, last := version(0, 0, 0), version(1, 0, 0), version(2, 0, 0), version(999, 999, 999)
	l := [][]api.Span{{{Lo: two, Hi: one}}, {{Lo: first, Hi: one}, {Lo: version(1, 0, 1), Hi: last}}, {{Lo: first, Hi: last}, {Lo: first, Hi: last}}, make([]api.Span, 65)}
	for _, v := range noVersions() {
		l = append(l, []api.Span{{Lo: first, Hi: last}, {Lo: v, Hi: v}}, []api.Span{{Lo: v, Hi: last}}, []api.Span{{Lo: first, Hi: v}})
	}
	return l
}
