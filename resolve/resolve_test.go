package resolve_test

import (
	"fmt"
	"math"
	"slices"
	"testing"

	"halyard/api"
	"halyard/catalog"
	"halyard/resolve"
	"halyard/span"
)

// chapter is the task of a manifest with the packages of the chapter's examples.
func chapter(manifest string) task {
	return of(manifest, "a 1.0.0; needs b ^1.0.0", "a 2.0.0; needs b 3.0.0", "b 1.0.0", "b 1.1.0", "p 1.0.0; beside b 1.0.0")
}

// The chapter's examples.
func TestExamples(t *testing.T) {
	chapter("needs a").finds(t, "needs a", 3, "root: a 1", "a 1.0.0: b 2", "b 1.1.0")
	chapter("needs a").liking("b 1.0.0").finds(t, "needs a, with a pin", 3, "root: a 1", "a 1.0.0: b 2", "b 1.0.0")
	chapter("needs b, p").finds(t, "needs b and p", 4, "root: b 1, p 2", "b 1.0.0", "p 1.0.0 with b 1.0.0: b 1")
	chapter("needs p").fails(t, "needs p", api.ErrUnsat)
	chapter("likes a 2.0.0").finds(t, "likes a 2.0.0", 2, "root")
	chapter("needs c").fails(t, "needs c", api.ErrUnsat)
	chapter("").finds(t, "the empty manifest", 0, "root")
	chapter("needs a").within(2, 20).fails(t, "needs a with 2 decisions", api.ErrBudget)
	chapter("needs a").within(100, 2).fails(t, "needs a with 2 nodes", api.ErrTooMany)
}

// noManifests is manifests that may not be.
func noManifests() []api.Manifest {
	long := project("needs a")
	for i := range 16 {
		var r []api.Span
		for j := range 40 {
			r = append(r, api.Span{Lo: version(j, 0, 0), Hi: version(j, 1, 0)})
		}
		long.Overrides = append(long.Overrides, api.Dep{Name: fmt.Sprintf("n%02d", i), Range: r})
	}
	many := project("")
	for i := range 17 {
		many.Dev = append(many.Dev, api.Dep{Name: fmt.Sprintf("n%02d", i), Range: span.All()})
	}
	l := []api.Manifest{
		project("needs a; dev a"), project("needs a; likes a"), project("dev a; likes a"), project("needs b, a"), project("needs a, a"), project("pins b, a"), long, many,
		{Deps: []api.Dep{{Name: "a"}}}, {Overrides: []api.Dep{{Name: "a", Range: []api.Span{{Lo: version(2, 0, 0), Hi: version(1, 0, 0)}}}}}, {Overrides: make([]api.Dep, 1<<16)},
	}
	for _, name := range noNames() {
		l = append(l, api.Manifest{Optional: []api.Dep{{Name: name, Range: span.All()}}})
	}
	for _, v := range noVersions() {
		l = append(l, api.Manifest{Dev: []api.Dep{{Name: "a", Range: []api.Span{{Lo: v, Hi: v}}}}})
	}
	return l
}

// isRefused tells a fault unless the answer is ErrArg, and nothing else.
func (x task) isRefused(t *testing.T, what string) {
	t.Helper()
	if g, n, e := x.run(); e != api.ErrArg || n != 0 || g.Nodes != nil {
		t.Errorf("Run of %s: %s, %d, error %d, not ErrArg", what, flat(g), n, e)
	}
}

// P11.1: ErrArg without a catalog, and of a manifest that may not be, whatever the search would come to.
func TestArguments(t *testing.T) {
	for _, text := range []string{"", "needs a", "needs c", "needs a, p", "needs p"} {
		for _, l := range []api.Limits{{Decisions: 100, Nodes: 20}, {Decisions: 1, Nodes: 1}, {}} {
			x := chapter(text)
			x.l = l
			none := x
			none.c = nil
			none.isRefused(t, "no catalog")
			none.without().isRefused(t, "no catalog")
			for i, m := range noManifests() {
				x.m, none.m = m, m
				x.isRefused(t, fmt.Sprintf("the manifest %d, which may not be", i))
				x.without().isRefused(t, fmt.Sprintf("the manifest %d, which may not be", i))
				none.isRefused(t, "neither")
			}
		}
	}
	of("").finds(t, "an empty catalog", 0, "root")
	of("needs a").fails(t, "an empty catalog", api.ErrUnsat)
	x := of("")
	x.c = new(catalog.Catalog)
	x.finds(t, "a catalog of nothing", 0, "root")
	x.m = project("needs a")
	x.fails(t, "a catalog of nothing", api.ErrUnsat)
	x.m = project("likes a")
	x.finds(t, "a catalog of nothing", 1, "root")
}

// P11.1: ErrArg, if Decisions is not 1 to MaxDecisions, or Nodes not 1 to MaxNodes, whatever the search would come to.
func TestLimitsMayBe(t *testing.T) {
	for _, text := range []string{"", "needs a", "needs c", "needs b, p", "needs p", "likes c"} {
		x := chapter(text)
		for _, n := range []int{0, -1, math.MinInt, 4097, 4098, math.MaxInt, 1 << 32, 1<<32 + 1} {
			for _, nodes := range []int{1, 20, 128, 0, 129} {
				x.within(n, nodes).isRefused(t, fmt.Sprintf("%q with %d decisions, %d nodes", text, n, nodes))
			}
		}
		for _, n := range []int{0, -1, math.MinInt, 129, 130, math.MaxInt, 1 << 32, 1<<32 + 1, 4096} {
			for _, decisions := range []int{1, 100, 4096, 0, 4097} {
				x.within(decisions, n).isRefused(t, fmt.Sprintf("%q with %d decisions, %d nodes", text, decisions, n))
			}
		}
	}
	for _, decisions := range []int{1, 2, 4095, 4096} {
		for _, nodes := range []int{1, 2, 127, 128} {
			chapter("").within(decisions, nodes).finds(t, "nothing", 0, "root")
			chapter("likes c").within(decisions, nodes).finds(t, "what is not there", 1, "root")
			chapter("needs c").within(decisions, nodes).fails(t, "what must be there, and is not", api.ErrUnsat)
			if nodes > 1 {
				chapter("needs b").within(decisions, nodes).finds(t, "b", 1, "root: b 1", "b 1.1.0")
			} else {
				chapter("needs b").within(decisions, nodes).fails(t, "b", api.ErrTooMany)
			}
		}
	}
}

// P11.1: the other fields of the limits are not looked at.
func TestOtherLimits(t *testing.T) {
	for _, dirs := range []int{0, -1, 1, 257, math.MaxInt, math.MinInt} {
		for _, path := range []int{0, -1, 1, 1025, math.MaxInt, math.MinInt} {
			x := chapter("needs a")
			x.l.Dirs, x.l.Path = dirs, path
			x.finds(t, "needs a", 3, "root: a 1", "a 1.0.0: b 2", "b 1.1.0")
			x.l.Decisions = 0
			x.isRefused(t, "no decisions")
		}
	}
}

// P11.1: the first node is the root: no Name, the zero Version, no Context; a package whose text is much like it is another one.
func TestRoot(t *testing.T) {
	g, n, e := resolve.Run(catalog.New(), api.Manifest{}, false, nil, api.Limits{Decisions: 1, Nodes: 1})
	if e != api.OK || n != 0 || len(g.Nodes) != 1 || g.Nodes[0].Name != "" || g.Nodes[0].Version != (api.Version{}) || len(g.Nodes[0].Context) != 0 || len(g.Nodes[0].Edges) != 0 {
		t.Errorf("the root alone: %+v, %d, error %d", g, n, e)
	}
	of("needs root", "root 0.0.0").finds(t, "a package of that name", 1, "root: root 1", "root 0.0.0")
}

// P11.1: nodes stand in the order in which they were made: by the dependant's place, then by name.
func TestOrderOfNodes(t *testing.T) {
	of("needs a, c; dev b; likes a0, aa", "a 1.0.0; needs y, z", "b 1.0.0; needs d", "c 1.0.0; needs a-b; likes e", "a0 1.0.0", "aa 1.0.0; needs x", "z 1.0.0; needs w", "y 1.0.0", "d 1.0.0", "e 1.0.0", "a-b 1.0.0", "x 1.0.0", "w 1.0.0").
		finds(t, "a broad tree", 13-1, "root: a 1, a0 2, aa 3, b 4, c 5",
			"a 1.0.0: y 6, z 7", "a0 1.0.0", "aa 1.0.0: x 8", "b 1.0.0: d 9", "c 1.0.0: a-b 10, e 11",
			"y 1.0.0", "z 1.0.0: w 12", "x 1.0.0", "d 1.0.0", "a-b 1.0.0", "e 1.0.0", "w 1.0.0")
}

// P11.1: wants are gone through by name, of whichever list they are, so that the last name's candidates are tried first behind a step back.
func TestOrderOfWants(t *testing.T) {
	all := []string{"a 1.0.0", "a 2.0.0", "b 1.0.0", "b 2.0.0", "c 1.0.0; beside a 1.0.0, b", "c 2.0.0; beside a, b 1.0.0"}
	// a 2, b 2, c 2: b is 2; c 1: a is 2; b 1 and c 2 again will do.
	of("needs a; dev c; likes b", all...).finds(t, "the last name first", 6, "root: a 1, b 2, c 3", "a 2.0.0", "b 1.0.0", "c 2.0.0 with a 2.0.0, b 1.0.0: a 1, b 2")
	of("likes a; dev b; needs c", all...).finds(t, "the last name first", 6, "root: a 1, b 2, c 3", "a 2.0.0", "b 1.0.0", "c 2.0.0 with a 2.0.0, b 1.0.0: a 1, b 2")
	// c stands between: a 2, b 2, c 2, c 1, NONE.
	of("needs a, b; likes c", all...).finds(t, "the last name is dropped", 5, "root: a 1, b 2", "a 2.0.0", "b 2.0.0")
}

// P11.1: candidates are tried as the catalog tells them: those that are pinned first, then the others, the greatest first.
func TestOrderOfCandidates(t *testing.T) {
	// Of a only 1.2.0 will do, so that the number of decisions tells where it stands.
	all := []string{"a 1.0.0; needs x", "a 1.1.0; needs x", "a 1.2.0", "a 1.10.0; needs x", "a 2.0.0; needs x"}
	for _, c := range []struct {
		manifest, pins string
		decisions      int
	}{
		{"needs a", "", 3}, {"needs a", "a 1.2.0", 1}, {"needs a", "a 1.0.0, a 1.2.0", 1}, {"needs a", "a 1.10.0, a 1.2.0", 2}, {"needs a", "a 1.2.0, a 1.10.0", 2},
		{"needs a", "a 2.0.0", 3}, {"needs a", "a 1.1.0", 4}, {"needs a", "a 1.0.0, a 1.1.0", 5}, {"needs a", "a 1.0.0, a 1.1.0, a 1.0.0", 5},
		{"needs a ^1.0.0", "a 2.0.0", 2}, {"needs a ^1.0.0", "a 1.3.0, a 0.0.0, b 1.2.0", 2}, {"needs a <=1.2.0", "a 1.0.0", 2}, {"needs a 1.2.0", "a 1.1.0", 1},
		{"likes a", "a 1.2.0", 1}, {"likes a", "", 3}, {"dev a", "", 3},
	} {
		of(c.manifest, all...).liking(c.pins).finds(t, c.manifest+" with "+c.pins, c.decisions, "root: a 1", "a 1.2.0")
	}
	of("likes a >1.2.0", all...).liking("a 1.2.0").finds(t, "none of them", 3, "root")
	of("needs a >1.2.0", all...).liking("a 1.2.0").fails(t, "none of them", api.ErrUnsat)
}

// P11.1: pins may be any list: such as name nothing that is there, or nothing that may be, change nothing.
func TestAnyPins(t *testing.T) {
	var l []api.Pin
	for _, name := range append(noNames(), "a", "b", "zz") {
		for _, v := range append(noVersions(), version(3, 0, 0), version(1, 1, 1)) {
			l = append(l, api.Pin{Name: name, Version: v})
		}
	}
	for _, text := range []string{"needs a", "needs b, p", "likes a 2.0.0", "", "needs p"} {
		x := chapter(text)
		g, n, e := x.run()
		x.pins = l
		x.asModel(t, text)
		got, n2, e2 := x.run()
		if flat(got) != flat(g) || n2 != n || e2 != e {
			t.Errorf("Run of %s with any pins: %s, %d, error %d", text, flat(got), n2, e2)
		}
	}
	x := chapter("needs a")
	x.pins = append(slices.Repeat(l, 50), pin("b 1.0.0"))
	x.finds(t, "one pin behind many", 3, "root: a 1", "a 1.0.0: b 2", "b 1.0.0")
}

// P11.1: pins are liked at every node.
func TestPinsOfPackages(t *testing.T) {
	x := of("needs a, b", "a 1.0.0; needs b, c", "b 1.0.0; likes c", "b 2.0.0", "c 1.0.0", "c 2.0.0")
	x.finds(t, "no pin", 4, "root: a 1, b 2", "a 1.0.0: b 2, c 3", "b 2.0.0", "c 2.0.0")
	x.liking("b 1.0.0, c 1.0.0").finds(t, "pins of both", 5, "root: a 1, b 2", "a 1.0.0: b 2, c 3", "b 1.0.0: c 3", "c 1.0.0")
	x.liking("c 1.0.0, c 2.0.0").finds(t, "pins of two versions", 4, "root: a 1, b 2", "a 1.0.0: b 2, c 3", "b 2.0.0", "c 2.0.0")
}

// P11.1: with dev true the project's Dev counts, with dev false it does not; a package has none.
func TestDev(t *testing.T) {
	x := of("needs a; dev b, c; likes d", "a 1.0.0", "b 1.0.0; needs e", "c 1.0.0; beside a", "d 1.0.0", "e 1.0.0")
	x.finds(t, "with Dev", 5, "root: a 1, b 2, c 3, d 4", "a 1.0.0", "b 1.0.0: e 5", "c 1.0.0 with a 1.0.0: a 1", "d 1.0.0", "e 1.0.0")
	x.without().finds(t, "without Dev", 2, "root: a 1, d 2", "a 1.0.0", "d 1.0.0")
	y := of("dev x", "a 1.0.0")
	y.fails(t, "with Dev that is not there", api.ErrUnsat)
	y.without().finds(t, "without it", 0, "root")
	z := of("needs p; dev b", "p 1.0.0; beside b", "b 1.0.0")
	z.finds(t, "beside what is for developing", 2, "root: b 1, p 2", "b 1.0.0", "p 1.0.0 with b 1.0.0: b 1")
	z.without().fails(t, "beside what is not there", api.ErrUnsat)
}

// P11.1: an override takes the place of the ranges of the project's own, of packages, and of Peers.
func TestOverrides(t *testing.T) {
	all := []string{"a 1.0.0; needs b 2.0.0", "b 1.0.0", "b 2.0.0", "p 1.0.0; beside b 2.0.0", "q 1.0.0; likes b 3.0.0"}
	of("needs a, b; pins b 1.0.0", all...).finds(t, "a package's", 3, "root: a 1, b 2", "a 1.0.0: b 2", "b 1.0.0")
	of("needs b 2.0.0; pins b 1.0.0", all...).finds(t, "the project's", 1, "root: b 1", "b 1.0.0")
	of("likes b 3.0.0; pins b <2.0.0", all...).finds(t, "what the project likes", 1, "root: b 1", "b 1.0.0")
	of("dev b 3.0.0; pins b <2.0.0", all...).finds(t, "what it develops with", 1, "root: b 1", "b 1.0.0")
	of("needs b, p; pins b 1.0.0", all...).finds(t, "a Peer's", 2, "root: b 1, p 2", "b 1.0.0", "p 1.0.0 with b 1.0.0: b 1")
	of("needs q; pins b", all...).finds(t, "what a package likes", 2, "root: q 1", "q 1.0.0: b 2", "b 2.0.0")
	of("needs q", all...).finds(t, "what a package likes, as it is", 2, "root: q 1", "q 1.0.0")
	of("needs b; pins b 3.0.0", all...).fails(t, "nothing that is there", api.ErrUnsat)
	of("likes b; pins b 3.0.0", all...).finds(t, "nothing that is there, and need not", 1, "root")
	of("needs b, p; pins b 2.0.0, c", all...).liking("b 1.0.0").finds(t, "a pin outside of it", 2, "root: b 1, p 2", "b 2.0.0", "p 1.0.0 with b 2.0.0: b 1")
	of("pins b 1.0.0", all...).finds(t, "overrides alone", 0, "root")
}
