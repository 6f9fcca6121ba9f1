package plain_test

import (
	"fmt"
	"math"
	"slices"
	"strings"
	"testing"

	"halyard/api"
	"halyard/catalog"
	"halyard/graph"
	"halyard/manifest"
	"halyard/plain"
	"halyard/resolve"
	"halyard/span"
)

// task is what is searched for.
type task struct {
	c    *catalog.Catalog
	m    api.Manifest
	dev  bool
	pins []api.Pin
	l    api.Limits
}

// of is the task of a manifest, with Dev, of those packages, in the limits of the examples.
func of(manifest string, packages ...string) task {
	return task{c: published(packages...), m: wanting(manifest), dev: true, l: example}
}

// liking is the same task with those pins.
func (x task) liking(text string) task {
	x.pins = pins(text)
	return x
}

// within is the same task within other limits.
func (x task) within(decisions, nodes int) task {
	x.l.Decisions, x.l.Nodes = decisions, nodes
	return x
}

// without is the same task without what Dev wants.
func (x task) without() task {
	x.dev = false
	return x
}

func (x task) String() string {
	var all []api.Package
	if x.c != nil {
		all = x.c.All()
	}
	return flat(x.m) + fmt.Sprint(x.dev, x.pins, x.l) + flat(all)
}

// asRun is what is found; it tells a fault unless that is what resolve.Run tells.
func (x task) asRun(t *testing.T, what string) (api.Graph, int, api.Errno) {
	t.Helper()
	g, n, e := plain.Resolve(x.c, x.m, x.dev, x.pins, x.l)
	want, m, f := resolve.Run(x.c, x.m, x.dev, x.pins, x.l)
	if e != f || n != m || !graph.Same(g, want) {
		t.Fatalf("%s: %s: %s, %d, error %d, not %s, %d, error %d", what, x, flat(g), n, e, flat(want), m, f)
	}
	return g, n, e
}

// finds tells a fault unless the graph of those nodes is found, with so many decisions, and in all narrower limits what resolve.Run tells.
func (x task) finds(t *testing.T, what string, decisions int, nodes ...string) {
	t.Helper()
	g, n, e := x.asRun(t, what)
	if e != api.OK || n != decisions || !graph.Same(g, drawn(nodes...)) {
		t.Errorf("%s: %s, %d, error %d, not %q, %d", what, flat(g), n, e, nodes, decisions)
		return
	}
	x.inNarrowLimits(t, what, decisions, len(nodes))
}

// inNarrowLimits asks for the same in each number of decisions up to what is enough, and in each number of nodes that stand.
func (x task) inNarrowLimits(t *testing.T, what string, decisions, nodes int) {
	t.Helper()
	for d := 1; d <= min(decisions+1, 40); d++ {
		x.within(d, x.l.Nodes).asRun(t, what)
	}
	for n := 1; n <= min(nodes+1, 40); n++ {
		x.within(x.l.Decisions, n).asRun(t, what)
	}
	if _, _, e := x.within(decisions-1, x.l.Nodes).asRun(t, what); decisions > 1 && e != api.ErrBudget {
		t.Errorf("%s with a decision less: error %d", what, e)
	}
	if _, n, e := x.within(max(decisions, 1), x.l.Nodes).asRun(t, what); n != decisions || e != api.OK {
		t.Errorf("%s with just enough decisions: %d, error %d", what, n, e)
	}
}

// fails tells a fault unless it is refused by that error, with nothing beside it.
func (x task) fails(t *testing.T, what string, want api.Errno) {
	t.Helper()
	if g, n, e := x.asRun(t, what); e != want || n != 0 || len(g.Nodes) > 0 {
		t.Errorf("%s: %s, %d, error %d, not %d", what, flat(g), n, e, want)
	}
}

// searched is the task of a manifest with the packages of chapter 11's examples.
func searched(manifest string) task {
	return of(manifest, "a 1.0.0; needs b ^1.0.0", "a 2.0.0; needs b 3.0.0", "b 1.0.0", "b 1.1.0", "p 1.0.0; beside b 1.0.0")
}

// P21.1: the examples of chapter 11.
func TestExamplesOfResolve(t *testing.T) {
	searched("needs a *").finds(t, "needs a", 3, "root: a 1", "a 1.0.0: b 2", "b 1.1.0")
	searched("needs a *").liking("b 1.0.0").finds(t, "needs a, with a pin", 3, "root: a 1", "a 1.0.0: b 2", "b 1.0.0")
	searched("needs b *; needs p *").finds(t, "needs b and p", 4, "root: b 1, p 2", "b 1.0.0", "p 1.0.0 with b 1.0.0: b 1")
	searched("needs p *").fails(t, "needs p", api.ErrUnsat)
	searched("likes a 2.0.0").finds(t, "likes a 2.0.0", 2, "root")
	searched("needs c *").fails(t, "needs c", api.ErrUnsat)
	searched("").finds(t, "the empty manifest", 0, "root")
	searched("needs a *").within(2, 20).fails(t, "needs a with 2 decisions", api.ErrBudget)
	searched("needs a *").within(100, 2).fails(t, "needs a with 2 nodes", api.ErrTooMany)
}

// P21.1: without a catalog, whatever else may be or not.
func TestResolveWithoutCatalog(t *testing.T) {
	for _, text := range []string{"", "needs a *", "needs c *"} {
		x := searched(text)
		x.c = nil
		x.fails(t, text, api.ErrArg)
		x.within(0, 0).fails(t, text+", without limits", api.ErrArg)
	}
	task{}.fails(t, "nothing at all", api.ErrArg)
	of("needs a *").fails(t, "an empty catalog", api.ErrUnsat)
	of("likes a *").finds(t, "an empty catalog", 1, "root")
	(&task{c: &catalog.Catalog{}, l: least}).finds(t, "a catalog that New did not give", 0, "root")
}

// noManifests is manifests that may not be.
func noManifests() []api.Manifest {
	one := func(name string) []api.Dep { return []api.Dep{{Name: name, Range: span.All()}} }
	var many []api.Dep
	for _, n := range names("n", 17) {
		many = append(many, api.Dep{Name: n, Range: span.All()})
	}
	long := wanting("needs a *")
	for _, n := range names("n", 16) {
		long.Overrides = append(long.Overrides, api.Dep{Name: n, Range: ranged(singles(40))})
	}
	l := []api.Manifest{
		{Deps: one("a"), Dev: one("a")}, {Deps: one("a"), Optional: one("a")}, {Dev: one("a"), Optional: one("a")},
		{Deps: append(one("b"), one("a")...)}, {Overrides: append(one("a"), one("a")...)}, {Deps: many}, {Dev: many}, {Optional: many}, {Overrides: many}, long,
		{Deps: []api.Dep{{Name: "a"}}}, {Overrides: []api.Dep{{Name: "a", Range: []api.Span{{Lo: version("2"), Hi: version("1")}}}}},
	}
	for _, name := range append(noNames(), "") {
		l = append(l, api.Manifest{Optional: one(name)}, api.Manifest{Overrides: one(name)})
	}
	for _, v := range noVersions() {
		l = append(l, api.Manifest{Dev: []api.Dep{{Name: "a", Range: []api.Span{{Lo: v, Hi: v}}}}})
	}
	return l
}

// P21.1: a manifest that may not be, with or without Dev.
func TestManifestThatMayNotBe(t *testing.T) {
	for i, m := range noManifests() {
		if manifest.May(m) {
			t.Fatal(i)
		}
		x := searched("")
		x.m = m
		x.fails(t, fmt.Sprint("manifest ", i), api.ErrArg)
		x.without().fails(t, fmt.Sprint("manifest ", i), api.ErrArg)
	}
	full := all(each("needs", names("d", 16), "*"), each("dev", names("e", 16), "*"), each("likes", names("f", 16), "*"), each("pins", names("g", 16), "*"))
	of(full).fails(t, "as many wants as may be", api.ErrUnsat)
	of(each("likes", names("f", 16), "*")).finds(t, "as many likes as may be", 16, "root")
}

// P21.1: each of the two limits one below and one above what it may be, and at both ends; the two others are not looked at.
func TestSearchLimits(t *testing.T) {
	for _, of := range []limit{decisions, nodes} {
		for _, n := range of.outside() {
			for _, text := range []string{"", "needs a *", "needs c *"} {
				x := searched(text)
				x.l = of.of(widest, n)
				x.fails(t, fmt.Sprintf("%s %d", of.name, n), api.ErrArg)
			}
		}
		for _, n := range of.ends() {
			x := searched("")
			x.l = of.of(least, n)
			x.finds(t, fmt.Sprintf("nothing, with %s %d", of.name, n), 0, "root")
			x.m = wanting("likes c *")
			x.finds(t, fmt.Sprintf("what is not there, with %s %d", of.name, n), 1, "root")
			x.m = wanting("needs b *")
			x.asRun(t, fmt.Sprintf("b, with %s %d", of.name, n))
		}
		x := searched("needs a *")
		x.l = of.of(x.l, of.most)
		x.finds(t, "needs a", 3, "root: a 1", "a 1.0.0: b 2", "b 1.1.0")
	}
	for _, of := range []limit{dirs, path} {
		for _, n := range append(of.outside(), of.ends()...) {
			x := searched("needs a *")
			x.l = of.of(x.l, n)
			x.finds(t, fmt.Sprintf("%s %d", of.name, n), 3, "root: a 1", "a 1.0.0: b 2", "b 1.1.0")
		}
	}
}

// P21.1: candidates are tried in the catalog's order: those that are pinned first, then the others, the greatest first.
func TestOrderOfCandidates(t *testing.T) {
	// Of a only 1.2.0 will do, so that the number of decisions tells where it stands.
	all := []string{"a 1.0.0; needs x *", "a 1.1.0; needs x *", "a 1.2.0", "a 1.10.0; needs x *", "a 2.0.0; needs x *"}
	for _, q := range []struct {
		manifest, pins string
		decisions      int
	}{
		{"needs a *", "", 3}, {"needs a *", "a 1.2.0", 1}, {"needs a *", "a 1.0.0, a 1.2.0", 1}, {"needs a *", "a 1.10.0, a 1.2.0", 2}, {"needs a *", "a 1.2.0, a 1.10.0", 2},
		{"needs a *", "a 2.0.0", 3}, {"needs a *", "a 1.1.0", 4}, {"needs a *", "a 1.0.0, a 1.1.0, a 1.0.0", 5}, {"needs a ^1.0.0", "a 2.0.0", 2},
		{"needs a ^1.0.0", "a 1.3.0, a 0.0.0, b 1.2.0", 2}, {"needs a <=1.2.0", "a 1.0.0", 2}, {"needs a 1.2.0", "a 1.1.0", 1}, {"likes a *", "a 1.2.0", 1}, {"dev a *", "", 3},
	} {
		of(q.manifest, all...).liking(q.pins).finds(t, q.manifest+" with "+q.pins, q.decisions, "root: a 1", "a 1.2.0")
	}
	of("likes a >1.2.0", all...).liking("a 1.2.0").finds(t, "none of them", 3, "root")
	of("needs a >1.2.0", all...).liking("a 1.2.0").fails(t, "none of them", api.ErrUnsat)
	// Pins are liked at every node.
	x := of("needs a *; needs b *", "a 1.0.0; needs b *; needs c *", "b 1.0.0; likes c *", "b 2.0.0", "c 1.0.0", "c 2.0.0")
	x.finds(t, "no pin", 4, "root: a 1, b 2", "a 1.0.0: b 2, c 3", "b 2.0.0", "c 2.0.0")
	x.liking("b 1.0.0, c 1.0.0").finds(t, "pins of both", 5, "root: a 1, b 2", "a 1.0.0: b 2, c 3", "b 1.0.0: c 3", "c 1.0.0")
	x.liking("c 1.0.0, c 2.0.0").finds(t, "pins of two versions", 4, "root: a 1, b 2", "a 1.0.0: b 2, c 3", "b 2.0.0", "c 2.0.0")
}

// P21.1: pins of nothing that is there, or of nothing that may be, change nothing.
func TestPinsOfNothing(t *testing.T) {
	var l []api.Pin
	for _, name := range append(noNames(), "", "a", "b", "zz") {
		for _, v := range append(noVersions(), version("3"), version("1.1.1")) {
			l = append(l, api.Pin{Name: name, Version: v})
		}
	}
	for _, text := range []string{"needs a *", "needs b *; needs p *", "likes a 2.0.0", "", "needs p *"} {
		x := searched(text)
		g, n, e := x.asRun(t, text)
		x.pins = l
		if got, m, f := x.asRun(t, text); !graph.Same(got, g) || m != n || f != e {
			t.Errorf("%s with pins of nothing: %s, %d, error %d", text, flat(got), m, f)
		}
	}
	x := searched("needs a *")
	x.pins = append(slices.Repeat(l, 50), pins("b 1.0.0")...)
	x.finds(t, "one pin behind many of nothing", 3, "root: a 1", "a 1.0.0: b 2", "b 1.0.0")
}

// P21.1: with dev true the project's Dev counts, with dev false it does not.
func TestDev(t *testing.T) {
	x := of("needs a *; dev b *; dev c *; likes d *", "a 1.0.0", "b 1.0.0; needs e *", "c 1.0.0; beside a *", "d 1.0.0", "e 1.0.0")
	x.finds(t, "with Dev", 5, "root: a 1, b 2, c 3, d 4", "a 1.0.0", "b 1.0.0: e 5", "c 1.0.0 with a 1.0.0: a 1", "d 1.0.0", "e 1.0.0")
	x.without().finds(t, "without Dev", 2, "root: a 1, d 2", "a 1.0.0", "d 1.0.0")
	of("dev x *").fails(t, "with Dev that is not there", api.ErrUnsat)
	of("dev x *").without().finds(t, "without it", 0, "root")
	y := of("needs p *; dev b *", "p 1.0.0; beside b *", "b 1.0.0")
	y.finds(t, "beside what is for developing", 2, "root: b 1, p 2", "b 1.0.0", "p 1.0.0 with b 1.0.0: b 1")
	y.without().fails(t, "beside what is not there", api.ErrUnsat)
}

// P21.1: an override takes the place of the ranges of the project's own, of packages, and of Peers.
func TestOverrides(t *testing.T) {
	all := []string{"a 1.0.0; needs b 2.0.0", "b 1.0.0", "b 2.0.0", "p 1.0.0; beside b 2.0.0", "q 1.0.0; likes b 3.0.0"}
	of("needs a *; needs b *; pins b 1.0.0", all...).finds(t, "a package's", 3, "root: a 1, b 2", "a 1.0.0: b 2", "b 1.0.0")
	of("needs b 2.0.0; pins b 1.0.0", all...).finds(t, "the project's", 1, "root: b 1", "b 1.0.0")
	of("likes b 3.0.0; pins b <2.0.0", all...).finds(t, "what the project likes", 1, "root: b 1", "b 1.0.0")
	of("needs b *; needs p *; pins b 1.0.0", all...).finds(t, "a Peer's", 2, "root: b 1, p 2", "b 1.0.0", "p 1.0.0 with b 1.0.0: b 1")
	of("needs q *; pins b *", all...).finds(t, "what a package likes", 2, "root: q 1", "q 1.0.0: b 2", "b 2.0.0")
	of("needs q *", all...).finds(t, "what a package likes, as it is", 2, "root: q 1", "q 1.0.0")
	of("needs b *; pins b 3.0.0", all...).fails(t, "nothing that is there", api.ErrUnsat)
	of("pins b 1.0.0", all...).finds(t, "overrides alone", 0, "root")
}

// P21.1: where a node's context has the want's Name the version that it tells is tried, if it is in range; nothing else.
func TestWantInContext(t *testing.T) {
	all := func(p string) []string {
		return []string{"p 1.0.0; beside q *; " + p, "q 1.0.0; beside r *", "r 1.0.0", "r 2.0.0", "r 3.0.0"}
	}
	two := []string{"root: p 1, q 2, r 3", "p 1.0.0 with q 1.0.0, r 2.0.0: q 2, r 3", "q 1.0.0 with r 2.0.0: r 3", "r 2.0.0"}
	for _, word := range []string{"needs", "likes"} {
		of("needs p *; needs q *; needs r 2.0.0", all(word+" r *")...).finds(t, word+" r: the context's", 4, two...)
		of("needs p *; needs q *; needs r 2.0.0", all(word+" r *")...).liking("r 1.0.0, r 3.0.0").finds(t, word+" r: not the pins'", 4, two...)
		of("needs p *; needs q *; needs r 2.0.0", all(word+" r 1.0.0 || 3.0.0")...).fails(t, word+" r, but not the context's", api.ErrUnsat)
		of("needs p *; needs q *; likes r *", all(word+" r 4.0.0")...).fails(t, word+" what is not there", api.ErrUnsat)
		of("needs p *; needs q *; needs r <=2.0.0", all(word+" r 1.0.0")...).finds(t, word+" r 1.0.0: not the first one", 5,
			"root: p 1, q 2, r 3", "p 1.0.0 with q 1.0.0, r 1.0.0: q 2, r 3", "q 1.0.0 with r 1.0.0: r 3", "r 1.0.0")
	}
	of("needs p *; needs r 2.0.0", "p 1.0.0; likes r *", "r 1.0.0", "r 2.0.0", "r 3.0.0").
		finds(t, "r without a context", 3, "root: p 1, r 2", "p 1.0.0: r 3", "r 2.0.0", "r 3.0.0")
	of("needs p *; needs q *", "p 1.0.0; beside q *", "p 2.0.0; beside q *", "q 1.0.0; beside p 1.0.0; likes s *").
		finds(t, "p in its own context", 5, "root: p 1, q 2", "p 1.0.0 with p 1.0.0, q 1.0.0: p 1, q 2", "q 1.0.0 with p 1.0.0, q 1.0.0: p 1, q 2")
	// Names of wants on both sides of those of the context.
	of("needs m *; needs p *", "p 1.0.0; needs a *; needs z *; beside m *; likes b *; likes y *", "m 1.0.0", "a 1.0.0", "b 1.0.0", "y 1.0.0", "z 1.0.0").
		finds(t, "a context in the middle", 6, "root: m 1, p 2", "m 1.0.0", "p 1.0.0 with m 1.0.0: a 3, b 4, m 1, y 5, z 6", "a 1.0.0", "b 1.0.0", "y 1.0.0", "z 1.0.0")
}

// P21.1: a WantMay is dropped behind all versions, which is a decision too; a WantMust is not.
func TestDropped(t *testing.T) {
	of("likes a *; likes b *; likes c *").finds(t, "nothing there, thrice", 3, "root")
	of("likes a *", "a 2.0.0; needs b *", "a 1.0.0; needs b *").finds(t, "it can't be had", 3, "root")
	of("likes a *", "a 2.0.0; needs b *", "a 1.0.0").finds(t, "it can be had in another version", 2, "root: a 1", "a 1.0.0")
	of("likes a *", "a 1.0.0; beside b *").finds(t, "its context does not stand", 2, "root")
	of("needs a *", "a 1.0.0; likes b *; likes c *", "c 1.0.0").finds(t, "by a package", 3, "root: a 1", "a 1.0.0: c 2", "c 1.0.0")
	of("needs a *; likes b *; needs d *", "a 1.0.0", "a 2.0.0", "b 1.0.0; beside a 1.0.0", "d 1.0.0; beside b *").
		finds(t, "dropped, and not", 8, "root: a 1, b 2, d 3", "a 1.0.0", "b 1.0.0 with a 1.0.0: a 1", "d 1.0.0 with a 1.0.0, b 1.0.0: a 1, b 2")
	of("needs a *; likes b *", "a 1.0.0; needs c *", "b 1.0.0").fails(t, "what must be there behind it", api.ErrUnsat)
}

// P21.1: a step back takes all back behind the candidate, over several nodes, and counts each candidate that is tried once more.
func TestStepBack(t *testing.T) {
	all := []string{"a 1.0.0", "a 2.0.0; needs x *", "a 3.0.0; needs x *", "b 1.0.0", "b 2.0.0"}
	of("needs a *; needs b *", all...).finds(t, "two of b, for each of a", 8, "root: a 1, b 2", "a 1.0.0", "b 2.0.0")
	// a 2, b, c, d, e, which has no g; then a 1, b, d.
	x := of("needs a *; needs b *", "a 1.0.0", "a 2.0.0; needs c *", "b 1.0.0; needs d *", "c 1.0.0; needs e *", "d 1.0.0", "e 1.0.0; needs g *")
	x.finds(t, "over five nodes", 8, "root: a 1, b 2", "a 1.0.0", "b 1.0.0: d 3", "d 1.0.0")
	x.within(8, 5).fails(t, "over five nodes, of which one is too many", api.ErrTooMany)
	x.within(7, 6).fails(t, "over five nodes, a decision less", api.ErrBudget)
	x.within(8, 6).finds(t, "over five nodes, with just enough", 8, "root: a 1, b 2", "a 1.0.0", "b 1.0.0: d 3", "d 1.0.0")
	y := of("needs a *; needs b *", "a 1.0.0; needs c *", "a 2.0.0; needs c *; needs d *", "b 1.0.0; needs c *; needs d *; needs e *", "c 1.0.0; needs f 1.0.0", "c 2.0.0; needs f 2.0.0", "d 1.0.0", "e 1.0.0; beside c 1.0.0", "f 1.0.0")
	y.finds(t, "c in another version", 19, "root: a 1, b 2", "a 2.0.0: c 3, d 4", "b 1.0.0: c 3, d 4, e 5", "c 1.0.0: f 6", "d 1.0.0", "e 1.0.0 with c 1.0.0: c 3", "f 1.0.0")
	of("needs a *; needs b *; needs c *; needs d *", "a 1.0.0", "a 2.0.0", "b 1.0.0", "c 1.0.0; beside a 1.0.0", "d 1.0.0").
		finds(t, "within the root", 8, "root: a 1, b 2, c 3, d 4", "a 1.0.0", "b 1.0.0", "c 1.0.0 with a 1.0.0: a 1", "d 1.0.0")
	// All ways on are tried, and none will do.
	z := of("needs a *; likes b *", "a 1.0.0; needs c *", "a 2.0.0; needs c *; likes b *", "b 1.0.0", "b 2.0.0", "c 1.0.0; needs x *", "c 2.0.0; beside y *")
	z.within(41, 20).fails(t, "all ways on", api.ErrUnsat)
	z.within(40, 20).fails(t, "all ways on but one", api.ErrBudget)
}

// P21.1: all contexts of a node are looked at ahead of any node that is made.
func TestContextsAheadOfNodes(t *testing.T) {
	x := of("needs c 1.0.0; needs k *; needs p *", "c 1.0.0", "c 2.0.0", "k 1.0.0; needs c *; needs p *", "p 1.0.0; beside c 1.0.0")
	x.within(100, 4).finds(t, "no room for what is not made", 7, "root: c 1, k 2, p 3", "c 1.0.0", "k 1.0.0: c 1, p 3", "p 1.0.0 with c 1.0.0: c 1")
}

// P21.1: an edge leads to the node of its name, version and context, if there is one; else that is made.
func TestNodes(t *testing.T) {
	of("needs a *; needs b *", "a 1.0.0; needs c *", "b 1.0.0; needs c *", "c 1.0.0").finds(t, "one node for both", 4, "root: a 1, b 2", "a 1.0.0: c 3", "b 1.0.0: c 3", "c 1.0.0")
	of("needs a *; needs b *", "a 1.0.0; needs p *; needs r 1.0.0", "b 1.0.0; needs p *; needs r 2.0.0", "p 1.0.0; beside r *", "r 1.0.0", "r 2.0.0").
		finds(t, "two contexts", 6, "root: a 1, b 2", "a 1.0.0: p 3, r 4", "b 1.0.0: p 5, r 6", "p 1.0.0 with r 1.0.0: r 4", "r 1.0.0", "p 1.0.0 with r 2.0.0: r 6", "r 2.0.0")
	of("needs a *; needs b *", "a 1.0.0; needs p *; needs q *; needs s *", "b 1.0.0; needs p *; needs q 1.0.0", "p 1.0.0; beside q *", "q 1.0.0", "q 2.0.0; beside s *", "s 1.0.0").
		finds(t, "contexts of other names", 7, "root: a 1, b 2", "a 1.0.0: p 3, q 4, s 5", "b 1.0.0: p 6, q 7", "p 1.0.0 with q 2.0.0, s 1.0.0: q 4, s 5", "q 2.0.0 with s 1.0.0: s 5", "s 1.0.0", "p 1.0.0 with q 1.0.0: q 7", "q 1.0.0")
	// A context that stood once stands again only where the environment tells the same.
	of("needs b *; needs k *; needs p *", "b 1.0.0", "b 2.0.0", "p 1.0.0; beside b *", "k 1.0.0; needs b 1.0.0; needs p *").
		finds(t, "another context of the same package", 5, "root: b 1, k 2, p 3", "b 2.0.0", "k 1.0.0: b 4, p 5", "p 1.0.0 with b 2.0.0: b 1", "b 1.0.0", "p 1.0.0 with b 1.0.0: b 4")
	of("needs b *; needs k *; needs p *", "b 1.0.0", "p 1.0.0; beside b *", "k 1.0.0; needs p *").fails(t, "no context where there is no b", api.ErrUnsat)
}

// P21.1: rings of packages.
func TestRings(t *testing.T) {
	of("needs a *", "a 1.0.0; needs a *").finds(t, "itself", 2, "root: a 1", "a 1.0.0: a 1")
	of("needs b *", "a 1.0.0; needs b *", "b 1.0.0; needs c *", "c 1.0.0; likes a *").finds(t, "three", 4, "root: b 1", "b 1.0.0: c 2", "c 1.0.0: a 3", "a 1.0.0: b 1")
	of("needs a *; needs b *", "a 1.0.0; beside b *", "b 1.0.0; beside a *").
		finds(t, "beside one another", 2, "root: a 1, b 2", "a 1.0.0 with a 1.0.0, b 1.0.0: a 1, b 2", "b 1.0.0 with a 1.0.0, b 1.0.0: a 1, b 2")
	of("needs a *", "a 1.0.0; beside a *").finds(t, "beside itself", 1, "root: a 1", "a 1.0.0 with a 1.0.0: a 1")
	of("needs a *; needs b *", "a 1.0.0; beside b *; needs c *", "b 1.0.0", "b 2.0.0", "c 1.0.0; needs a *; needs b 1.0.0").
		finds(t, "a ring with two contexts", 6, "root: a 1, b 2", "a 1.0.0 with b 2.0.0: b 2, c 3", "b 2.0.0", "c 1.0.0: a 4, b 5", "a 1.0.0 with b 1.0.0: b 5, c 3", "b 1.0.0")
}

// P21.1: the order of wants is that of their names, of whichever list they are; that of nodes is that in which they are made.
func TestOrder(t *testing.T) {
	all := []string{"a 1.0.0", "a 2.0.0", "b 1.0.0", "b 2.0.0", "c 1.0.0; beside a 1.0.0; beside b *", "c 2.0.0; beside a *; beside b 1.0.0"}
	for _, text := range []string{"needs a *; dev c *; likes b *", "needs c *; dev b *; likes a *"} {
		of(text, all...).finds(t, text, 6, "root: a 1, b 2, c 3", "a 2.0.0", "b 1.0.0", "c 2.0.0 with a 2.0.0, b 1.0.0: a 1, b 2")
	}
	of("needs a *; needs c *; dev b *; likes a-0 *", "a 1.0.0; needs y *; needs z *", "b 1.0.0; needs d *", "c 1.0.0; needs a-b *; likes e *", "a-0 1.0.0", "z 1.0.0; needs w *", "y 1.0.0", "d 1.0.0", "e 1.0.0", "a-b 1.0.0", "w 1.0.0").
		finds(t, "a broad tree", 10, "root: a 1, a-0 2, b 3, c 4", "a 1.0.0: y 5, z 6", "a-0 1.0.0", "b 1.0.0: d 7", "c 1.0.0: a-b 8, e 9", "y 1.0.0", "z 1.0.0: w 10", "d 1.0.0", "a-b 1.0.0", "e 1.0.0", "w 1.0.0")
}

// chain is a task of packages that need one another, each the next one, and the nodes of its graph.
func chain(count int) (task, []string) {
	l := names("n", count)
	packages, nodes := []string{}, []string{"root: n000 1"}
	for i, n := range l {
		p, node := n+" 1.0.0", n+" 1.0.0"
		if i+1 < count {
			p += "; needs " + l[i+1] + " *"
			node += fmt.Sprintf(": %s %d", l[i+1], i+2)
		}
		packages, nodes = append(packages, p), append(nodes, node)
	}
	return of("needs n000 *", packages...), nodes
}

// P21.1: just as many nodes, and just as many decisions, as may be; and one more.
func TestMost(t *testing.T) {
	x, want := chain(127)
	x.within(4096, 128).finds(t, "a chain as long as may be", 127, want...)
	x.within(4096, 127).fails(t, "a node less", api.ErrTooMany)
	x.within(126, 128).fails(t, "a decision less", api.ErrBudget)
	x, _ = chain(128)
	x.within(4096, 128).fails(t, "a chain of one more", api.ErrTooMany)
	// 64 of a, and for each 63 of b, are as many decisions as may be; only the very last one will do.
	all := []string{"b 0.0.0; beside a 0.0.0"}
	for i := range 64 {
		all = append(all, fmt.Sprintf("a %d.0.0", i))
	}
	for i := range 62 {
		all = append(all, fmt.Sprintf("b %d.0.0; beside z *", i+1))
	}
	y := of("needs a *; needs b *", all...).within(4096, 128)
	y.finds(t, "the last decision that may be", 4096, "root: a 1, b 2", "a 0.0.0", "b 0.0.0 with a 0.0.0: a 1")
	y.m = wanting("needs a *; needs b *; likes c *")
	y.fails(t, "more than may be", api.ErrBudget)
	// What was taken back counts no more.
	z := of("needs a *", "a 1.0.0", "a 2.0.0; needs b *; needs c *", "a 3.0.0; needs b *; needs c *", "b 1.0.0; needs x *", "c 1.0.0")
	z.within(100, 4).finds(t, "nodes that were taken back", 7, "root: a 1", "a 1.0.0")
	z.within(100, 3).fails(t, "one node too many, though it would be taken back", api.ErrTooMany)
	// Where both limits are passed the one that comes first counts.
	searched("needs a *").within(2, 1).fails(t, "too many nodes ahead of too many decisions", api.ErrTooMany)
	searched("needs a *; needs b *").within(1, 1).fails(t, "too many decisions ahead of too many nodes", api.ErrBudget)
}

// ring is a task that binds nodes in great contexts again and again: 30 packages beside one another, of which each has all in its context, with so many versions of x and y, of which no x will do.
func ring(versions int) task {
	var packages []string
	l := names("m", 30)
	for i, n := range l {
		var beside []string
		for k := range 16 {
			beside = append(beside, l[(i+k+1)%30])
		}
		slices.Sort(beside)
		packages = append(packages, n+" 1.0.0; "+each("beside", beside, "*"))
	}
	for i := range versions {
		packages = append(packages, fmt.Sprintf("x %d.0.0; needs z *", i), fmt.Sprintf("y %d.0.0", i))
	}
	return of(all(each("needs", l[:16], "*"), each("dev", l[16:], "*"), "dev x *; dev y *"), packages...)
}

// R1: searches end soon enough: one that binds many nodes in great contexts again and again, and one with many pins.
func TestGreatSearches(t *testing.T) {
	ring(20).within(450, 33).fails(t, "a search that binds again and again", api.ErrUnsat)
	ring(20).within(449, 33).fails(t, "a search that binds again and again, with a decision less", api.ErrBudget)
	ring(36).within(4096, 128).fails(t, "a greater one", api.ErrUnsat)
	x := searched("needs a *; needs b *")
	for i := range 1 << 20 {
		x.pins = append(x.pins, api.Pin{Name: []string{"a", "b", "c"}[i%3], Version: api.Version{Major: i % 100}})
	}
	// a 2.0.0, b 1.0.0, b 1.1.0; a 1.0.0, b 1.0.0, and that again, since it is pinned.
	if g, n, e := x.asRun(t, "many pins"); e != api.OK || n != 6 || !graph.Same(g, drawn("root: a 1, b 2", "a 1.0.0: b 2", "b 1.0.0")) {
		t.Errorf("many pins: %s, %d, error %d", flat(g), n, e)
	}
	x.m = api.Manifest{Overrides: []api.Dep{{Name: strings.Repeat("a", 1<<24), Range: span.All()}}}
	x.fails(t, "a great name", api.ErrArg)
	x.m = api.Manifest{Deps: make([]api.Dep, 1<<20)}
	x.within(math.MaxInt, math.MinInt).fails(t, "a great manifest", api.ErrArg)
}
