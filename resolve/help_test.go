package resolve_test

import (
	"fmt"
	"math"
	"slices"
	"strconv"
	"strings"
	"testing"

	"halyard/api"
	"halyard/catalog"
	"halyard/resolve"
	"halyard/span"
)

func version(major, minor, patch int) api.Version {
	return api.Version{Major: major, Minor: minor, Patch: patch}
}

// numbers is the version of a text of the tests.
func numbers(s string) api.Version {
	var v api.Version
	if _, err := fmt.Sscanf(s, "%d.%d.%d", &v.Major, &v.Minor, &v.Patch); err != nil {
		panic(s)
	}
	return v
}

// ranged is the range of a text of the tests.
func ranged(text string) []api.Span {
	l, e := span.Parse(text)
	if e != api.OK {
		panic(text)
	}
	return l
}

// cut is the parts of a text, with `, ` between each two; the empty text has none.
func cut(text string) []string {
	if text == "" {
		return nil
	}
	return strings.Split(text, ", ")
}

// deps is the Deps of a text, with `, ` between each two: a name, and perhaps a range behind a blank; else it is all versions.
func deps(text string) []api.Dep {
	var l []api.Dep
	for _, s := range cut(text) {
		name, r, some := strings.Cut(s, " ")
		if !some {
			r = "*"
		}
		l = append(l, api.Dep{Name: name, Range: ranged(r)})
	}
	return l
}

// pin is a name and a version.
func pin(s string) api.Pin {
	name, v, _ := strings.Cut(s, " ")
	return api.Pin{Name: name, Version: numbers(v)}
}

// pins is the pins of a text, with `, ` between each two.
func pins(text string) []api.Pin {
	var l []api.Pin
	for _, s := range cut(text) {
		l = append(l, pin(s))
	}
	return l
}

// edges is the edges of a text, with `, ` between each two: a label and a number.
func edges(text string) []api.Edge {
	var l []api.Edge
	for _, s := range cut(text) {
		label, to, _ := strings.Cut(s, " ")
		n, err := strconv.Atoi(to)
		if err != nil {
			panic(text)
		}
		l = append(l, api.Edge{Label: label, To: n})
	}
	return l
}

// lists puts lists such as `needs a, b 1.0.0; likes c` where they belong.
func lists(text string, to map[string]*[]api.Dep) {
	for s := range strings.SplitSeq(text, "; ") {
		if word, l, some := strings.Cut(s, " "); some {
			*to[word] = deps(l)
		}
	}
}

// project is a manifest, such as `needs a, b ^1.0.0; dev c; likes d; pins b 1.2.0`.
func project(text string) api.Manifest {
	var m api.Manifest
	lists(text, map[string]*[]api.Dep{"needs": &m.Deps, "dev": &m.Dev, "likes": &m.Optional, "pins": &m.Overrides})
	return m
}

// packed is a package, such as `a 1.0.0; needs b; beside c; likes d`.
func packed(text string) api.Package {
	at, rest, _ := strings.Cut(text, "; ")
	p := api.Package{Name: pin(at).Name, Version: pin(at).Version}
	lists(rest, map[string]*[]api.Dep{"needs": &p.Deps, "beside": &p.Peers, "likes": &p.Optional})
	return p
}

// filled is a catalog with those packages.
func filled(l ...api.Package) *catalog.Catalog {
	c := catalog.New()
	for _, p := range l {
		if e := c.Put(p); e != api.OK {
			panic(fmt.Sprint(p))
		}
	}
	return c
}

// stocked is a catalog with the packages of those texts.
func stocked(texts ...string) *catalog.Catalog {
	var l []api.Package
	for _, s := range texts {
		l = append(l, packed(s))
	}
	return filled(l...)
}

// node is a node, such as `p 1.0.0 with b 1.0.0, c 1.0.0: b 2, c 3`; the root is `root: a 1`.
func node(text string) api.Node {
	head, led, _ := strings.Cut(text, ": ")
	at, context, _ := strings.Cut(head, " with ")
	n := api.Node{Context: pins(context), Edges: edges(led)}
	if at != "root" {
		n.Name, n.Version = pin(at).Name, pin(at).Version
	}
	return n
}

// drawn is the graph of those nodes.
func drawn(texts ...string) api.Graph {
	var g api.Graph
	for _, s := range texts {
		g.Nodes = append(g.Nodes, node(s))
	}
	return g
}

// flat is a graph, be it such as may be or not, as a text; nil and empty lists are one.
func flat(g api.Graph) string {
	var l []string
	for _, n := range g.Nodes {
		s := fmt.Sprintf("%q %v", n.Name, n.Version)
		for _, p := range n.Context {
			s += fmt.Sprintf(" with %q %v", p.Name, p.Version)
		}
		for _, e := range n.Edges {
			s += fmt.Sprintf(" to %q %d", e.Label, e.To)
		}
		l = append(l, s)
	}
	return strings.Join(l, "; ")
}

// short cuts a text that is too long to tell.
func short(s string) string {
	if len(s) > 300 {
		return s[:300] + " and so on"
	}
	return s
}

// task is what a graph is looked for.
type task struct {
	c    *catalog.Catalog
	m    api.Manifest
	dev  bool
	pins []api.Pin
	l    api.Limits
}

// of is the task of a manifest, with dev, and of those packages, within the chapter's limits.
func of(manifest string, packages ...string) task {
	return task{c: stocked(packages...), m: project(manifest), dev: true, l: api.Limits{Decisions: 100, Nodes: 20}}
}

// liking is the same task with those pins.
func (x task) liking(text string) task {
	x.pins = pins(text)
	return x
}

// within is the same task within other limits.
func (x task) within(decisions, nodes int) task {
	x.l = api.Limits{Decisions: decisions, Nodes: nodes}
	return x
}

// without is the same task without what Dev wants.
func (x task) without() task {
	x.dev = false
	return x
}

func (x task) run() (api.Graph, int, api.Errno) { return resolve.Run(x.c, x.m, x.dev, x.pins, x.l) }

// finds tells a fault unless the search comes to the graph of those nodes with so many decisions, and as the model does, in just these limits too.
func (x task) finds(t *testing.T, what string, decisions int, nodes ...string) {
	t.Helper()
	g, n, e := x.run()
	if e != api.OK || n != decisions || flat(g) != flat(drawn(nodes...)) {
		t.Errorf("Run of %s: %s, %d, error %d, not %d", what, short(flat(g)), n, e, decisions)
		return
	}
	x.asModel(t, what)
}

// fails tells a fault unless the search is refused by that error, as the model is.
func (x task) fails(t *testing.T, what string, want api.Errno) {
	t.Helper()
	if g, n, e := x.run(); e != want || n != 0 || len(g.Nodes) != 0 {
		t.Errorf("Run of %s: %s, %d, error %d, not %d", what, short(flat(g)), n, e, want)
		return
	}
	x.asModel(t, what)
}

// What a solution is, by the tests' own means, as near to the words of chapter 10 as may be.

func (x task) rangeOf(d api.Dep) []api.Span {
	for _, o := range x.m.Overrides {
		if o.Name == d.Name {
			return o.Range
		}
	}
	return d.Range
}

// lists is what must be there, and what may, of the node at a place.
func (x task) lists(g api.Graph, place int) (must, may []api.Dep) {
	if place > 0 {
		p, _ := x.c.Get(g.Nodes[place].Name, g.Nodes[place].Version)
		return p.Deps, p.Optional
	}
	if x.dev {
		return slices.Concat(x.m.Deps, x.m.Dev), x.m.Optional
	}
	return x.m.Deps, x.m.Optional
}

// env is the environment of the node at a place, as a map.
func env(g api.Graph, place int) map[string]api.Version {
	told := map[string]api.Version{}
	for _, e := range g.Nodes[place].Edges {
		told[e.Label] = g.Nodes[e.To].Version
	}
	for _, p := range g.Nodes[place].Context {
		told[p.Name] = p.Version
	}
	return told
}

// context takes names in till there are no more to take.
func (x task) context(told map[string]api.Version, p api.Pin) ([]api.Pin, bool) {
	var l []api.Pin
	for more := true; more; {
		more = false
		for _, at := range append(slices.Clone(l), p) {
			found, there := x.c.Get(at.Name, at.Version)
			if !there {
				return nil, false
			}
			for _, d := range found.Peers {
				v, some := told[d.Name]
				if !some || !span.In(x.rangeOf(d), v) {
					return nil, false
				}
				if n := (api.Pin{Name: d.Name, Version: v}); !slices.Contains(l, n) {
					l, more = append(l, n), true
				}
			}
		}
	}
	slices.SortFunc(l, func(a, b api.Pin) int { return slices.Compare([]byte(a.Name), []byte(b.Name)) })
	return l, true
}

// solvedBy is the number of the chapter's first condition that does not hold; 0: a graph is a solution. What a graph is at all counts to the first one.
func (x task) solvedBy(g api.Graph) int {
	if !x.first(g) {
		return 1
	}
	for i := range g.Nodes {
		if !second(g, i) {
			return 2
		}
	}
	for number, holds := range map[int]func(api.Graph, int) bool{3: x.third, 4: fourth, 5: x.fifth} {
		for i := range g.Nodes {
			if !holds(g, i) {
				return number
			}
		}
	}
	return 0
}

func (x task) first(g api.Graph) bool {
	if len(g.Nodes) < 1 || len(g.Nodes) > 128 {
		return false
	}
	texts := map[string]bool{}
	for i, n := range g.Nodes {
		_, there := x.c.Get(n.Name, n.Version)
		if i == 0 {
			there = n.Name == "" && n.Version == api.Version{} && len(n.Context) == 0
		}
		text := fmt.Sprint(n.Name, n.Version, n.Context)
		if !there || texts[text] || !rises(n) {
			return false
		}
		texts[text] = true
	}
	return !slices.Contains(reached(g), false)
}

// rises tells whether the edges and the context of a node rise, each name once.
func rises(n api.Node) bool {
	for i := range n.Edges {
		if i > 0 && n.Edges[i-1].Label >= n.Edges[i].Label {
			return false
		}
	}
	for i := range n.Context {
		if i > 0 && n.Context[i-1].Name >= n.Context[i].Name {
			return false
		}
	}
	return true
}

// reached goes along all edges as often as there are nodes.
func reached(g api.Graph) []bool {
	met := make([]bool, len(g.Nodes))
	for range g.Nodes {
		met[0] = true
		for i, n := range g.Nodes {
			for _, e := range n.Edges {
				if met[i] && e.To >= 0 && e.To < len(g.Nodes) {
					met[e.To] = true
				}
			}
		}
	}
	return met
}

func second(g api.Graph, place int) bool {
	for _, e := range g.Nodes[place].Edges {
		if e.To < 1 || e.To >= len(g.Nodes) || g.Nodes[e.To].Name != e.Label {
			return false
		}
	}
	return true
}

func (x task) third(g api.Graph, place int) bool {
	must, may := x.lists(g, place)
	n := g.Nodes[place]
	for _, d := range must {
		if !slices.ContainsFunc(n.Edges, func(e api.Edge) bool { return e.Label == d.Name }) {
			return false
		}
	}
	for _, e := range n.Edges {
		asked := slices.ContainsFunc(n.Context, func(p api.Pin) bool { return p.Name == e.Label })
		for _, d := range slices.Concat(must, may) {
			if d.Name == e.Label {
				asked = true
				if !span.In(x.rangeOf(d), g.Nodes[e.To].Version) {
					return false
				}
			}
		}
		if !asked {
			return false
		}
	}
	return true
}

func fourth(g api.Graph, place int) bool {
	n := g.Nodes[place]
	for _, p := range n.Context {
		if !slices.ContainsFunc(n.Edges, func(e api.Edge) bool { return e.Label == p.Name && g.Nodes[e.To].Version == p.Version }) {
			return false
		}
	}
	return true
}

func (x task) fifth(g api.Graph, place int) bool {
	for _, e := range g.Nodes[place].Edges {
		to := g.Nodes[e.To]
		context, stands := x.context(env(g, place), api.Pin{Name: to.Name, Version: to.Version})
		if !stands || !slices.Equal(context, to.Context) {
			return false
		}
	}
	return true
}

// source is numbers that look like chance, and are the same each time.
type source uint64

func (s *source) below(n int) int {
	*s = *s*6364136223846793005 + 1442695040888963407
	return int(uint64(*s) >> 33 % uint64(n))
}

func (s *source) pick(texts ...string) string { return texts[s.below(len(texts))] }

// few is all names of packages and projects of the model.
var few = []string{"a", "a-b", "a0", "aa", "b"}

func (s *source) someVersion() api.Version { return version(1+s.below(3), 0, 0) }

// someRange is the text of a range that most versions are in.
func (s *source) someRange() string {
	return s.pick("*", "*", "<=2.0.0", ">=2.0.0", "1.0.0 || 3.0.0", "^1.0.0 || ^2.0.0", "2.0.0")
}

// someTask is a project, and packages that want one another and need one another beside them.
func (s *source) someTask() task {
	var all []api.Package
	for _, name := range few {
		for major := range 3 {
			p := api.Package{Name: name, Version: version(1+major, 0, 0)}
			to := []*[]api.Dep{&p.Deps, &p.Peers, &p.Optional}
			for _, n := range few {
				if k := s.below(8); k < 3 {
					*to[k] = append(*to[k], deps(n+" "+s.someRange())...)
				}
			}
			if s.below(12) > 0 {
				all = append(all, p)
			}
		}
	}
	x := task{c: filled(all...), dev: s.below(2) == 0, l: api.Limits{Decisions: api.MaxDecisions, Nodes: api.MaxNodes}}
	for range s.below(4) {
		x.pins = append(x.pins, api.Pin{Name: s.pick(few...), Version: s.someVersion()})
	}
	to := []*[]api.Dep{&x.m.Deps, &x.m.Deps, &x.m.Dev, &x.m.Optional}
	for _, n := range few {
		if k := s.below(5); k < 4 {
			*to[k] = append(*to[k], deps(n+" "+s.someRange())...)
		}
		if s.below(8) == 0 {
			x.m.Overrides = append(x.m.Overrides, deps(n+" "+s.someRange())...)
		}
	}
	return x
}

// noNames is names that may not be.
func noNames() []string {
	return []string{"", "A", "aB", "1a", "-a", "a_b", "a.b", "a b", " a", "a\n", "\x00", "\xff", "\u00e9", "abcdefghijklmnopq", strings.Repeat("a", 5000)}
}

// noVersions is versions that may not be.
func noVersions() []api.Version {
	var l []api.Version
	for _, n := range []int{-1, 1000, math.MinInt, math.MaxInt} {
		l = append(l, version(n, 0, 0), version(0, n, 0), version(0, 0, n), version(999, n, 999))
	}
	return l
}
