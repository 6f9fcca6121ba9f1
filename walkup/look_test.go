package walkup_test

import (
	"slices"
	"strings"
	"testing"

	"halyard/api"
	"halyard/tree"
	"halyard/walkup"
)

// The chapter's table of examples.
func TestExamples(t *testing.T) {
	x := chapter()
	const root, a, b, inner = 0, 1, 2, 3
	looks(t, x, inner, "b", inner)
	looks(t, x, a, "b", inner)
	looks(t, x, root, "b", b)
	looks(t, x, b, "a", a)
	looks(t, x, a, "c", -1)
	looks(t, x, 9, "a", -1)
	looks(t, x, root, "A", -1)
}

// P13.1: the directory's own modules, those of one further up, the root's, none.
func TestLook(t *testing.T) {
	x := grown("a", "a b", "a b c", "a b c d", "c", "a d", "b", "b e", "d", "a b c d e")
	const a, ab, abc, abcd, c, ad, b, be, d, abcde = 1, 2, 3, 4, 5, 6, 7, 8, 9, 10
	for label, want := range map[string][]int{
		// From the root, and from each place in order.
		"a": {a, a, a, a, a, a, a, a, a, a, a},
		"b": {b, ab, ab, ab, ab, b, ab, b, b, b, ab},
		"c": {c, c, abc, abc, abc, c, c, c, c, c, abc},
		"d": {d, ad, ad, abcd, abcd, d, ad, d, d, d, abcd},
		"e": {-1, -1, -1, -1, abcde, -1, -1, be, be, -1, abcde},
		"f": {-1, -1, -1, -1, -1, -1, -1, -1, -1, -1, -1},
	} {
		for from, place := range want {
			looks(t, x, from, label, place)
		}
	}
}

// P13.1: a directory finds itself by its own name, unless one of that name stands in its modules.
func TestLookItself(t *testing.T) {
	x := grown("a", "a b", "b", "b c", "b c c", "a b c")
	for from, want := range []int{1: 1, 2: 2, 3: 3, 4: 5, 5: 5, 6: 6} {
		if from > 0 {
			path := x.Dirs[from].Path
			looks(t, x, from, path[len(path)-1], want)
		}
	}
	// In a row of one name each finds the next one, and the last one itself.
	row := chain(slices.Repeat([]string{"a"}, 50)...)
	for from := range row.Dirs {
		looks(t, row, from, "a", min(from+1, 50))
		looks(t, row, from, "b", -1)
	}
}

// P13.1: what stands beside the way up, or deeper, is not found.
func TestLookBeside(t *testing.T) {
	x := grown("a", "b", "b x", "a c", "a c y", "c", "c z", "a-b", "aa", "aa w")
	for _, label := range []string{"x", "z", "w"} {
		for _, from := range []int{0, 1, 4, 5} {
			looks(t, x, from, label, -1)
		}
	}
	looks(t, x, 0, "y", -1)
	looks(t, x, 1, "y", -1)
	looks(t, x, 2, "y", -1)
	looks(t, x, 4, "y", 5)
	looks(t, x, 5, "y", 5)
	looks(t, x, 6, "y", -1)
	looks(t, x, 9, "w", 10)
	// A path's end is not its beginning.
	looks(t, grown("a", "b", "a b", "a b c", "b d"), 4, "d", -1)
}

// P13.1: a place that is none.
func TestLookFromNowhere(t *testing.T) {
	for _, x := range []api.Tree{{}, grown(), chapter(), laid(names("a"), names("a"))} {
		for _, from := range noPlaces(len(x.Dirs)) {
			looks(t, x, from, "a", -1)
		}
	}
	looks(t, grown("a", "b"), 2, "b", 2)
	looks(t, grown("a", "b"), 3, "b", -1)
}

// P13.1: a label that may not be is not found, also where a directory has it.
func TestLookLabels(t *testing.T) {
	for _, label := range noNames() {
		x := laid(nil, []string{label}, []string{label, label}, []string{"a"}, []string{"a", label}, []string{label, "a"})
		for from := range x.Dirs {
			looks(t, x, from, label, -1)
		}
		looks(t, x, 1, "a", 5)
		looks(t, x, 2, "a", 5)
		looks(t, x, 4, "a", 3)
	}
	for _, label := range []string{"a", "z", "a-", "a0", "modules", "package", "abcdefghijklmnop", "z9--"} {
		x := grown("b", "b "+label, label)
		looks(t, x, 0, label, 3)
		looks(t, x, 1, label, 2)
		looks(t, x, 2, label, 2)
		looks(t, x, 3, label, 3)
	}
	long := strings.Repeat("a", 16)
	looks(t, grown(long), 0, long, 1)
	looks(t, laid(nil, []string{long + "a"}), 0, long+"a", -1)
	looks(t, laid(nil, []string{long + "a"}), 0, long, -1)
}

// P13.1: in trees that may not be: the first of those with one path, and a way up by names, whether directories stand there or not.
func TestLookInAny(t *testing.T) {
	twice := laid(nil, names("b"), names("a"), names("b"), names("a b"), names("a"), names("a b"), nil, names("b"))
	for from, want := range []int{1, 1, 4, 1, 4, 4, 4, 1, 1} {
		looks(t, twice, from, "b", want)
	}
	for from := range twice.Dirs {
		looks(t, twice, from, "a", 2)
	}
	// Without the directories on the way.
	lone := laid(names("a b c d"), names("a b x"), names("a y"), names("z"), names("b w"))
	for label, want := range map[string]int{"x": 1, "y": 2, "z": 3, "d": 0, "w": -1, "a": -1, "c": -1} {
		looks(t, lone, 0, label, want)
	}
	looks(t, lone, 3, "y", -1)
	looks(t, lone, 4, "w", 4)
	looks(t, laid(names("a")), 0, "a", 0)
	looks(t, laid(names("a b"), names("b")), 0, "b", 0)
	looks(t, laid(names("b"), names("a b")), 1, "b", 1)
	// A way up by names that may not be; names that are joined otherwise are others.
	odd := laid([]string{"A", "", "a/b"}, []string{"A", "", "x"}, []string{"A", "y"}, []string{"a", "b", "z"}, []string{"A", "", "a", "b", "z"}, []string{"", "y"})
	looks(t, odd, 0, "x", 1)
	looks(t, odd, 0, "y", 2)
	looks(t, odd, 0, "z", -1)
	looks(t, odd, 5, "y", 5)
}

// P13.1: packages and nodes are not looked at.
func TestLookPacks(t *testing.T) {
	x := chapter()
	for i := range x.Dirs {
		x.Dirs[i].Pack, x.Dirs[i].Node = api.Package{Name: "c", Deps: wanted("d")}, -5
	}
	looks(t, x, 0, "c", -1)
	looks(t, x, 1, "b", 3)
	looks(t, x, 0, "b", 2)
}

// P13.1: as the model, in trees that may be and such as may not.
func TestLookAsModel(t *testing.T) {
	s := source(1)
	found, deep, none := 0, 0, 0
	for i := 0; i < 1500 && !t.Failed(); i++ {
		x := s.someTree()
		for _, x := range []api.Tree{x, s.shuffled(x), s.thinned(x)} {
			for from := -1; from <= len(x.Dirs); from++ {
				for _, label := range append(noNames()[:3], few...) {
					want := modelLook(x, from, label)
					looks(t, x, from, label, want)
					switch {
					case want < 0:
						none++
					case len(x.Dirs[want].Path) > 1:
						deep++
					default:
						found++
					}
				}
			}
		}
	}
	if found < 10000 || deep < 10000 || none < 10000 {
		t.Error("too few of a kind:", found, deep, none)
	}
}

// P13.5: what is found stands in the modules of the directory itself, or of one in which it stands; and none that is nearer has that name.
func TestNear(t *testing.T) {
	s := source(2)
	met := 0
	for i := 0; i < 1500 && !t.Failed(); i++ {
		x := s.someTree()
		for from := range x.Dirs {
			for _, label := range few {
				met += isNear(t, x, from, label)
			}
		}
	}
	if met < 10000 {
		t.Errorf("%d found", met)
	}
}

// isNear goes up by tree.Parent and looks into modules by tree.Inside; it is 1, if something is found.
func isNear(t *testing.T, x api.Tree, from int, label string) int {
	t.Helper()
	found := walkup.Look(x, from, label)
	for at := from; at >= 0; at = tree.Parent(x, at) {
		for _, i := range tree.Inside(x, at) {
			if path := x.Dirs[i].Path; path[len(path)-1] == label {
				if i != found {
					t.Fatalf("Look(%d, %q) in %s: %d, but %d is nearer", from, label, flat(x), found, i)
				}
				return 1
			}
		}
	}
	if found != -1 {
		t.Fatalf("Look(%d, %q) in %s: %d, which does not stand on the way up", from, label, flat(x), found)
	}
	return 0
}
