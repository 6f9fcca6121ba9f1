package chart_test

import (
	"fmt"
	"math"
	"slices"
	"strings"
	"testing"

	"halyard/api"
	"halyard/chart"
)

// names is the path of a text, with a blank between each two names; the empty text is the root's.
func names(text string) []string { return strings.Fields(text) }

// dir is a directory with a package of its last name.
func dir(node int, path ...string) api.Dir {
	return api.Dir{Path: path, Pack: api.Package{Name: path[len(path)-1], Version: api.Version{Major: 1}}, Node: node}
}

// grown is a tree of the root and the directories of those paths, each of which is the node of its place.
func grown(paths ...string) api.Tree {
	t := api.Tree{Dirs: []api.Dir{{}}}
	for i, s := range paths {
		t.Dirs = append(t.Dirs, dir(i+1, names(s)...))
	}
	return t
}

// chapter is the tree of the chapter's examples.
func chapter() api.Tree { return grown("a", "a b", "a c", "d") }

// chain is a tree of so many directories, each in the modules of the one ahead of it.
func chain(count int) api.Tree {
	t := grown()
	for i := range count {
		t.Dirs = append(t.Dirs, dir(i+1, slices.Repeat([]string{"a"}, i+1)...))
	}
	return t
}

// wide is a tree of so many directories beside each other.
func wide(count int) api.Tree {
	t := grown()
	for i := range count {
		t.Dirs = append(t.Dirs, dir(i+1, fmt.Sprintf("n%03d", i)))
	}
	return t
}

// full is a tree with as many directories as may be, in rows as long as may be.
func full() api.Tree {
	t := chain(102)
	for i := 0; len(t.Dirs) <= api.MaxDirs; i++ {
		t.Dirs = append(t.Dirs, dir(1, append(slices.Clone(t.Dirs[i*7%102].Path), fmt.Sprintf("b%d", i/102))...))
	}
	return t
}

// spot is a spot of a path's names.
func spot(path string, x, y int) chart.Spot { return chart.Spot{Path: names(path), X: x, Y: y} }

// at is a drawing of one spot.
func at(x, y int) []chart.Spot { return []chart.Spot{spot("a b", x, y)} }

// many is a drawing of so many spots, none of which is far from 0.
func many(count int) []chart.Spot {
	var l []chart.Spot
	for i := range count {
		l = append(l, spot(fmt.Sprintf("a n%d", i), i, 7-3*i))
	}
	return l
}

// flat is a drawing as a text; nil and empty lists are one.
func flat(l []chart.Spot) string {
	var out []string
	for _, s := range l {
		out = append(out, fmt.Sprintf("%q %d %d", s.Path, s.X, s.Y))
	}
	return short(strings.Join(out, "; "))
}

// short cuts a text that is too long to tell.
func short(s string) string {
	if len(s) > 300 {
		return s[:300] + " and so on"
	}
	return s
}

// told is a drawing as the chapter's table tells it.
func told(l []chart.Spot) string {
	var out []string
	for _, s := range l {
		name := strings.Join(s.Path, " ")
		if len(s.Path) == 0 {
			name = "root"
		}
		out = append(out, fmt.Sprintf("%s %d %d", name, s.X, s.Y))
	}
	return strings.Join(out, "; ")
}

func alike(a, b chart.Spot) bool { return slices.Equal(a.Path, b.Path) && a.X == b.X && a.Y == b.Y }

// same tells whether two drawings have the same spots in the same order.
func same(a, b []chart.Spot) bool { return slices.EqualFunc(a, b, alike) }

// answers tells a fault unless a call told these spots.
func answers(t *testing.T, what string, got []chart.Spot, e api.Errno, want []chart.Spot) {
	t.Helper()
	if e != api.OK || !same(got, want) {
		t.Errorf("%s: %s, error %d, not %s", what, flat(got), e, flat(want))
	}
}

// refused tells a fault unless a call told an error, and nothing else.
func refused(t *testing.T, what string, got []chart.Spot, e, want api.Errno) {
	t.Helper()
	if e != want || got != nil {
		t.Errorf("%s: %s, error %d, not %d", what, flat(got), e, want)
	}
}

func draws(t *testing.T, x api.Tree, quarters int, want []chart.Spot) {
	t.Helper()
	got, e := chart.Draw(x, quarters)
	answers(t, fmt.Sprintf("Draw by %d", quarters), got, e, want)
}

// drawn is a tree's drawing, which must be told.
func drawn(t *testing.T, x api.Tree, quarters int) []chart.Spot {
	t.Helper()
	l, e := chart.Draw(x, quarters)
	if e != api.OK {
		t.Fatalf("Draw: error %d", e)
	}
	return l
}

func twists(t *testing.T, l []chart.Spot, a, b int, want []chart.Spot) {
	t.Helper()
	got, e := chart.Twist(l, a, b)
	answers(t, fmt.Sprintf("Twist of %s by %d, %d", flat(l), a, b), got, e, want)
}

func turns(t *testing.T, l []chart.Spot, quarters int, want []chart.Spot) {
	t.Helper()
	got, e := chart.Turn(l, quarters)
	answers(t, fmt.Sprintf("Turn of %s by %d", flat(l), quarters), got, e, want)
}

func flips(t *testing.T, l []chart.Spot, want []chart.Spot) {
	t.Helper()
	got, e := chart.Flip(l)
	answers(t, "Flip of "+flat(l), got, e, want)
}

func boxes(t *testing.T, l []chart.Spot, want chart.Frame) {
	t.Helper()
	if got, e := chart.Box(l); e != api.OK || got != want {
		t.Errorf("Box of %s: %+v, error %d, not %+v", flat(l), got, e, want)
	}
}

func weighs(t *testing.T, l []chart.Spot, x, y int) {
	t.Helper()
	if gotX, gotY, e := chart.Weight(l); e != api.OK || gotX != x || gotY != y {
		t.Errorf("Weight of %s: %d, %d, error %d, not %d, %d", flat(l), gotX, gotY, e, x, y)
	}
}

func reads(t *testing.T, l []chart.Spot, want string) {
	t.Helper()
	if got, e := chart.Text(l); e != api.OK || got != want {
		t.Errorf("Text of %s: %q, error %d, not %q", flat(l), short(got), e, short(want))
	}
}

// textless tells a fault unless a drawing has no text.
func textless(t *testing.T, l []chart.Spot) {
	t.Helper()
	if got, e := chart.Text(l); e != api.ErrArg || got != "" {
		t.Errorf("Text of %s: %q, error %d", flat(l), short(got), e)
	}
}

// takenByNone tells a fault unless each call refuses a drawing.
func takenByNone(t *testing.T, what string, l []chart.Spot) {
	t.Helper()
	for _, n := range []int{0, 1, 2, -1024, 1024, 1025} {
		got, e := chart.Twist(l, n, 0)
		refused(t, what+": Twist", got, e, api.ErrArg)
		got, e = chart.Turn(l, n)
		refused(t, what+": Turn", got, e, api.ErrArg)
	}
	got, e := chart.Flip(l)
	refused(t, what+": Flip", got, e, api.ErrArg)
	if f, e := chart.Box(l); e != api.ErrArg || f != (chart.Frame{}) {
		t.Errorf("%s: Box: %+v, error %d", what, f, e)
	}
	if x, y, e := chart.Weight(l); e != api.ErrArg || x != 0 || y != 0 {
		t.Errorf("%s: Weight: %d, %d, error %d", what, x, y, e)
	}
	textless(t, l)
}

// takenByAll tells a fault unless each call takes a drawing, and answers as the model does.
func takenByAll(t *testing.T, what string, l []chart.Spot) {
	t.Helper()
	if !modelMay(l) {
		t.Errorf("%s may not be", what)
	}
	for _, n := range []int{0, 1, 2, 3, -1, -1024, 1024} {
		twists(t, l, n, n/2-512, modelTwist(l, n, n/2-512))
		turns(t, l, n, modelTurn(l, n))
	}
	flips(t, l, modelFlip(l))
	f, x, y := modelSums(l)
	boxes(t, l, f)
	weighs(t, l, x, y)
}

// quarters is numbers of quarters, as many as the least and the greatest int.
func quarters() []int {
	return []int{0, 1, 2, 3, 4, 5, 6, 7, 8, -1, -2, -3, -4, -5, -6, -7, -8, 1 << 20, 1<<20 + 1, 1<<40 + 2, 1<<62 + 3, -1<<40 - 1, -1<<62 - 2, math.MaxInt, math.MaxInt - 1, math.MinInt, math.MinInt + 1, math.MinInt + 2, math.MaxInt32, math.MinInt32}
}

// noNames is names that may not be.
func noNames() []string {
	return []string{"", "A", "aB", "1a", "-a", "a_b", "a.b", "a/b", "@a/b", "@a", "/", "a/", "/a", "a b", " a", "a\n", "\x00", "\xff", "\u00e9", "..", "a\u00e9", "abcdefghijklmnopq", strings.Repeat("a", 5000)}
}
