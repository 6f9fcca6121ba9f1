package chart_test

import (
	"fmt"
	"math"
	"slices"
	"strings"
	"testing"

	"halyard/api"
	"halyard/chart"
)

// The chapter's table.
func TestExamples(t *testing.T) {
	x := chapter()
	l := drawn(t, x, 0)
	if got := told(l); got != "root 0 0; a 1 0; a b 2 0; a c 2 1; d 1 2" {
		t.Error(got)
	}
	if got := told(drawn(t, x, 1)); got != "root 0 0; a 0 1; a b 0 2; a c -1 2; d -2 1" {
		t.Error(got)
	}
	boxes(t, l, chart.Frame{Left: 0, Low: 0, Right: 2, High: 2})
	weighs(t, l, 6, 3)
	twists(t, at(2, 1), 3, -1, at(7, 1))
	turns(t, at(2, 1), -1, at(1, -2))
	turns(t, at(2, 1), 6, at(-2, -1))
	flips(t, at(2, 1), at(2, -1))
	text, _ := chart.Text(l)
	if lines := strings.SplitAfter(text, "\n"); len(lines) != 6 || lines[3] != "2 1 /modules/a/modules/c\n" {
		t.Errorf("%q", lines)
	}
	for _, l := range [][]chart.Spot{nil, at(0, 0), l} {
		got, e := chart.Twist(l, 1025, 0)
		refused(t, "Twist by 1025", got, e, api.ErrArg)
	}
	if f, e := chart.Box(at(1<<40+1, 0)); e != api.ErrArg || f != (chart.Frame{}) {
		t.Error(f, e)
	}
	boxes(t, nil, chart.Frame{})
}

// P23.1: the root alone, modules in modules, many beside each other: each directory behind the one in whose modules it stands, by names, whatever the order of the tree's directories is.
func TestDraw(t *testing.T) {
	for _, x := range []struct {
		tree []string
		want string
	}{
		{nil, "root 0 0"},
		{names("a"), "root 0 0; a 1 0"},
		{names("c a b"), "root 0 0; a 1 0; b 1 1; c 1 2"},
		{[]string{"a", "a a", "a a a"}, "root 0 0; a 1 0; a a 2 0; a a a 3 0"},
		{[]string{"a", "b", "a c"}, "root 0 0; a 1 0; a c 2 0; b 1 1"},
		{[]string{"b", "b a", "a"}, "root 0 0; a 1 0; b 1 1; b a 2 1"},
		{[]string{"b", "a", "b c", "a c", "b b", "a b", "b a"}, "root 0 0; a 1 0; a b 2 0; a c 2 1; b 1 2; b a 2 2; b b 2 3; b c 2 4"},
		{[]string{"a", "a b", "a b c", "a b d", "a e", "f"}, "root 0 0; a 1 0; a b 2 0; a b c 3 0; a b d 3 1; a e 2 2; f 1 3"},
		{[]string{"b", "a", "a z", "a y", "a z c", "a z d", "a z e", "a y b"}, "root 0 0; a 1 0; a y 2 0; a y b 3 0; a z 2 1; a z c 3 1; a z d 3 2; a z e 3 3; b 1 4"},
		{[]string{"modules", "modules modules", "package"}, "root 0 0; modules 1 0; modules modules 2 0; package 1 1"},
	} {
		if got := told(drawn(t, grown(x.tree...), 0)); got != x.want {
			t.Errorf("Draw of %q: %s, not %s", x.tree, got, x.want)
		}
	}
}

// P23.1: names rise byte by byte, not by their lengths, nor by their numbers.
func TestDrawByNames(t *testing.T) {
	l := drawn(t, grown("x9", "x10", "aa", "a0", "a", "a-", "a-b", "z-", "b", "aa b", "a0 z", "a b"), 0)
	if got, want := told(l), "root 0 0; a 1 0; a b 2 0; a- 1 1; a-b 1 2; a0 1 3; a0 z 2 3; aa 1 4; aa b 2 4; b 1 5; x10 1 6; x9 1 7; z- 1 8"; got != want {
		t.Errorf("%s, not %s", got, want)
	}
}

// P23.1: Draw looks at nothing of a tree that may be but its paths.
func TestDrawLooksAtPaths(t *testing.T) {
	x := chapter()
	for i := range x.Dirs[1:] {
		d := &x.Dirs[i+1]
		d.Node = math.MaxInt - i%2
		d.Pack.Version = api.Version{Major: 9 - i}
		d.Pack.Deps = []api.Dep{{Name: "z", Range: []api.Span{{}}}}
	}
	draws(t, x, 3, drawn(t, chapter(), 3))
	draws(t, grown("d", "a", "a c", "a b"), 0, drawn(t, chapter(), 0))
}

// P23.1: all is turned by the quarters, any int.
func TestDrawTurned(t *testing.T) {
	for q, want := range map[int]string{
		0: "root 0 0; a 1 0; a b 2 0; a c 2 1; d 1 2",
		1: "root 0 0; a 0 1; a b 0 2; a c -1 2; d -2 1",
		2: "root 0 0; a -1 0; a b -2 0; a c -2 -1; d -1 -2",
		3: "root 0 0; a 0 -1; a b 0 -2; a c 1 -2; d 2 -1",
	} {
		for _, n := range []int{q, q + 4, q - 4, q - 8, q + 1<<40, q - 1<<62, math.MinInt + q, math.MaxInt - 3 + q} {
			if got := told(drawn(t, chapter(), n)); got != want {
				t.Errorf("by %d: %s, not %s", n, got, want)
			}
		}
	}
	for _, q := range quarters() {
		draws(t, chapter(), q, modelDraw(chapter(), q))
		draws(t, grown(), q, []chart.Spot{{}})
	}
}

// P23.1: ErrTree, if a tree may not be, whatever the quarters are.
func TestDrawOfNoTree(t *testing.T) {
	changed := func(change func(x *api.Tree)) api.Tree {
		x := chapter()
		change(&x)
		return x
	}
	for what, x := range map[string]api.Tree{
		"no directories":               {},
		"a list of no directories":     {Dirs: []api.Dir{}},
		"no root":                      {Dirs: []api.Dir{dir(1, "a")}},
		"the root behind another one":  {Dirs: []api.Dir{dir(1, "a"), {}}},
		"a root with a path":           changed(func(x *api.Tree) { x.Dirs[0].Path = names("a") }),
		"a root with a node":           changed(func(x *api.Tree) { x.Dirs[0].Node = 1 }),
		"a root with a package":        changed(func(x *api.Tree) { x.Dirs[0].Pack.Name = "a" }),
		"a second root":                changed(func(x *api.Tree) { x.Dirs = append(x.Dirs, api.Dir{}) }),
		"a directory without a node":   changed(func(x *api.Tree) { x.Dirs[2].Node = 0 }),
		"a node below 0":               changed(func(x *api.Tree) { x.Dirs[4].Node = -1 }),
		"a path twice":                 grown("a", "b", "a"),
		"a directory in none":          grown("a", "b c"),
		"a directory ahead of its own": grown("a b", "a"),
		"another package":              changed(func(x *api.Tree) { x.Dirs[1].Pack.Name = "x" }),
		"a package that may not be":    changed(func(x *api.Tree) { x.Dirs[1].Pack.Version.Minor = 1000 }),
		"a path that is too long":      chain(103),
		"too many directories":         wide(257),
	} {
		for _, q := range quarters() {
			l, e := chart.Draw(x, q)
			refused(t, what, l, e, api.ErrTree)
		}
	}
	for _, bad := range noNames() {
		for _, x := range []api.Tree{{Dirs: []api.Dir{{}, dir(1, bad)}}, {Dirs: []api.Dir{{}, dir(1, "a"), dir(1, "a", bad)}}} {
			l, e := chart.Draw(x, 0)
			refused(t, "a name that may not be", l, e, api.ErrTree)
		}
	}
}

// P23.1: trees as great as may be, and as deep.
func TestDrawGreat(t *testing.T) {
	for what, x := range map[string]api.Tree{"wide": wide(256), "deep": chain(102), "full": full()} {
		for _, q := range []int{0, 1, -2, math.MaxInt} {
			l := drawn(t, x, q)
			if want := modelDraw(x, q); !same(l, want) || len(l) != len(x.Dirs) {
				t.Errorf("%s: %s, not %s", what, flat(l), flat(want))
			}
			takenByAll(t, what, l)
		}
	}
	l := drawn(t, wide(256), 0)
	boxes(t, l, chart.Frame{Right: 1, High: 255})
	boxes(t, drawn(t, chain(102), 0), chart.Frame{Right: 102})
	for i, s := range l[1:] {
		if want := spot(fmt.Sprintf("n%03d", i), 1, i); !alike(s, want) {
			t.Errorf("%s, not %s", flat([]chart.Spot{s}), flat([]chart.Spot{want}))
		}
	}
}

// P23.1: drawn trees are as the model draws them, by any quarters, in whatever order their directories stand.
func TestDrawAsModel(t *testing.T) {
	s := source(1)
	spots := 0
	for range 1500 {
		x := s.someTree()
		q := s.someQuarters()
		draws(t, x, q, modelDraw(x, q))
		slices.SortFunc(x.Dirs, func(a, b api.Dir) int { return len(a.Path) - len(b.Path) })
		draws(t, x, q, modelDraw(x, q))
		spots += len(x.Dirs)
	}
	if spots < 15000 {
		t.Error("too few:", spots)
	}
}
