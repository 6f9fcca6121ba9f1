package place_test

import (
	"testing"

	"halyard/api"
	"halyard/tree"
)

// chapter is the graph of the chapter's example: the root needs a and c, a needs b 1, c needs b 2.
func chapter() task { return of("root: a 1, c 2", "a 1: b 3", "c 1: b 4", "b 1", "b 2") }

// chapterToo is the same, and the root needs b 2, too.
func chapterToo() task { return of("root: a 1, b 4, c 2", "a 1: b 3", "c 1: b 4", "b 1", "b 2") }

// P14.1: the chapter's examples.
func TestExamples(t *testing.T) {
	chapter().stands(t, "the example", "a 1", "b 3", "c 2", "c/b 4")
	chapterToo().stands(t, "the example with b of the root", "a 1", "a/b 3", "b 4", "c 2")
	for what, x := range map[string]task{"the example": chapter(), "with b of the root": chapterToo()} {
		x.within(3, 1024).fails(t, what+", Dirs 3", api.ErrTooDeep)
		x.within(4, 19).fails(t, what+", Path 19", api.ErrTooLong)
		if got, e := x.within(4, 20).run(); e != api.OK || len(got.Dirs) != 5 {
			t.Errorf("%s, Dirs 4, Path 20: %s, error %d", what, flat(got), e)
		}
	}
	if got, _ := chapter().run(); tree.Text(got.Dirs[4].Path) != "/modules/c/modules/b" {
		t.Error(tree.Text(got.Dirs[4].Path))
	}
}

// P14.1, W1: the examples of the whole that this layer can be asked.
func TestExamplesOfTheWhole(t *testing.T) {
	of("root: a 1", "a 1: b 2", "b 1").stands(t, "add a", "a 1", "b 2")
	x := of("root: a 1, c 3", "a 1: b 2", "b 1", "c 1: b 4", "b 2")
	x.liking("a 1", "b 2").stands(t, "add c", "a 1", "b 2", "c 3", "c/b 4")
	of("root: b 1, p 2", "b 1", "p 1 with b 1: b 1").stands(t, "add p", "b 1", "p 2")
	// b of the root is another one now: that of a goes down, and that of c is gone.
	x = of("root: a 1, b 2, c 3", "a 1: b 4", "b 2", "c 1: b 2", "b 1")
	x.liking("a 1", "b 4", "c 3", "c/b 2").stands(t, "update b", "a 1", "a/b 4", "b 2", "c 3")
	x.stands(t, "dedupe", "a 1", "a/b 4", "b 2", "c 3")
	x.liking("a 1", "a/b 4", "b 2", "c 3").stands(t, "dedupe again", "a 1", "a/b 4", "b 2", "c 3")
}

// P14.1: a graph of the root alone, and nodes that no edge leads to.
func TestNothingToPlace(t *testing.T) {
	of("root").stands(t, "the root alone")
	of("root", "a 1", "b 1: a 1").stands(t, "nodes that are not reached")
	of("root: a 1", "a 1", "b 1: a 1", "c 1 with b 1: b 2").stands(t, "a context that is not reached", "a 1")
	of("root").within(1, 1).stands(t, "the root alone in the least room")
}

// P14.1: what leads to nodes without a context is found, or placed as high up as may be.
func TestAlone(t *testing.T) {
	of("root: a 1", "a 1: b 2", "b 1: c 3", "c 1").stands(t, "a row", "a 1", "b 2", "c 3")
	of("root: a 1, b 2, c 3", "a 1: b 2, c 3", "b 1: a 1, c 3", "c 1: a 1, b 2").stands(t, "all are found", "a 1", "b 2", "c 3")
	// Edges go by label, directories as they were placed: of two versions the first that is met stands higher.
	of("root: a 1, b 2", "a 1: x 3", "b 1: x 4", "x 1", "x 2").stands(t, "a comes first", "a 1", "b 2", "b/x 4", "x 3")
	of("root: a 1, b 2", "a 1: x 4", "b 1: x 3", "x 1", "x 2").stands(t, "a comes first, the other way round", "a 1", "b 2", "b/x 3", "x 4")
	of("root: b 2", "c 1: x 3", "b 1: c 1, x 4", "x 1", "x 2").stands(t, "b ahead of what it needs", "b 2", "c 1", "c/x 3", "x 4")
	// Directories that were placed first come first, wherever they stand.
	of("root: a 1, z 2", "a 1: b 3", "z 1: x 4", "b 1: x 5", "x 1", "x 2").stands(t, "z was placed ahead of b", "a 1", "b 3", "b/x 5", "x 4", "z 2")
	// A package may need its own name.
	of("root: a 1", "a 1: a 1").stands(t, "itself", "a 1")
	of("root: a 1", "a 1: a 2", "a 2").stands(t, "its name in another version", "a 1", "a/a 2")
	of("root: a 1", "a 1: a 2", "a 2: a 1").within(3, 1024).fails(t, "two versions round", api.ErrTooDeep)
	// Two nodes that are alike are two nodes.
	of("root: a 1, b 2", "a 1: x 3", "b 1: x 4", "x 1", "x 1").stands(t, "two nodes that are alike", "a 1", "b 2", "b/x 4", "x 3")
}

// P14.1: a spot is lower where a name is taken: in the modules of a directory further up, or of one between.
func TestTakenNames(t *testing.T) {
	// x 2 stands in a, since the root has x 1; what it needs goes to the root, or to a, or into itself.
	nodes := []string{"root: a 1, x 2", "a 1: x 3", "x 1"}
	of(append(nodes, "x 2: y 4", "y 1")...).stands(t, "to the root", "a 1", "a/x 3", "x 2", "y 4")
	of("root: a 1, x 2, y 5", "a 1: x 3", "x 1", "x 2: y 4", "y 1", "y 2").stands(t, "to one between", "a 1", "a/x 3", "a/y 4", "x 2", "y 5")
	of("root: a 1, x 2, y 5", "a 1: x 3, y 6", "x 1", "x 2: y 4", "y 1", "y 2", "y 3").stands(t, "into itself", "a 1", "a/x 3", "a/x/y 4", "a/y 6", "x 2", "y 5")
	// The one between has the name, though the root has not, since the old tree likes it there.
	of("root: a 1, x 2", "a 1: x 3, y 5", "x 1", "x 2: y 4", "y 1", "y 2").liking("a 1", "a/y 5").stands(t, "not above one between", "a 1", "a/x 3", "a/x/y 4", "a/y 5", "x 2")
	// Further up than what is found the name is free, but it would be found no more.
	of("root: a 1, x 2, z 6", "a 1: x 3, y 5", "x 1", "x 2: y 4", "y 1", "y 2", "z 1: y 4").liking("a 1", "a/y 5").stands(t, "free further up", "a 1", "a/x 3", "a/x/y 4", "a/y 5", "x 2", "y 4", "z 6")
}

// P14.1: a spot is lower where an edge is settled already with what stands further up: of the directory itself, of one in it, of one deep in it.
func TestSettledEdges(t *testing.T) {
	of("root: a 1, b 2, x 4", "a 1: b 2, x 5", "b 1", "b 2", "x 1", "x 2: b 3").stands(t, "of a itself", "a 1", "a/x 5", "a/x/b 3", "b 2", "x 4")
	of("root: a 1, b 2, x 4, y 6", "a 1: x 5, y 7", "b 1", "b 2", "x 1", "x 2: b 2", "y 1", "y 2: b 3").stands(t, "of one in a", "a 1", "a/x 5", "a/y 7", "a/y/b 3", "b 2", "x 4", "y 6")
	// The one in a comes later, so that the spot is free, and it gets what it needs itself.
	of("root: a 1, b 2, x 4, y 6", "a 1: x 5, y 7", "b 1", "b 2", "x 1", "x 2: b 3", "y 1", "y 2: b 2").stands(t, "of one in a that comes later", "a 1", "a/b 3", "a/x 5", "a/y 7", "a/y/b 2", "b 2", "x 4", "y 6")
	// None needs it.
	of("root: a 1, b 2, x 4", "a 1: x 5", "b 1", "b 2", "x 1", "x 2: b 3").stands(t, "of none", "a 1", "a/b 3", "a/x 5", "b 2", "x 4")
	// What it was settled with stands in the directory's own modules, or in one in it: that does not matter to the root.
	of("root: a 1, c 3", "a 1: b 2", "b 1", "c 1: b 4", "b 2").liking("a 1", "a/b 2").stands(t, "with one in a", "a 1", "a/b 2", "b 4", "c 3")
	// One deep in a: in a/w, w/v, which finds b of the root.
	deep := of("root: a 1, b 2, v 8, w 4, y 6", "a 1: w 5, y 7", "b 1", "b 2", "w 1", "w 2: v 9", "y 1", "y 2: z 10", "v 1", "v 2: b 2", "z 1: b 3")
	deep.liking("a 1", "a/w 5", "a/w/v 9", "a/y 7", "a/y/z 10").stands(t, "of one deep in a", "a 1", "a/w 5", "a/w/v 9", "a/y 7", "a/y/b 3", "a/y/z 10", "b 2", "v 8", "w 4", "y 6")
	// Without that one a is a spot.
	deep = of("root: a 1, b 2, v 8, w 4, y 6", "a 1: w 5, y 7", "b 1", "b 2", "w 1", "w 2: v 9", "y 1", "y 2: z 10", "v 1", "v 2", "z 1: b 3")
	deep.liking("a 1", "a/w 5", "a/w/v 9", "a/y 7", "a/y/z 10").stands(t, "of none deep in a", "a 1", "a/b 3", "a/w 5", "a/w/v 9", "a/y 7", "a/y/z 10", "b 2", "v 8", "w 4", "y 6")
	// A name that begins as another one is another one: a- is not in a.
	of("root: a 1, a- 8, b 2, x 4", "a 1: x 5", "b 1", "b 2", "x 1", "x 2: b 3", "c 1", "c 1", "a- 1: b 2").stands(t, "of one with a longer name", "a 1", "a- 8", "a/b 3", "a/x 5", "b 2", "x 4")
}

// P14.1: what was settled with the directory in whose modules it stands itself.
func TestSettledWithTheSpotItself(t *testing.T) {
	// The edge a of a/c was settled with a, which stands in the root's modules: a 2 cannot stand in a, but in a/d.
	x := of("root: a 1, c 2, d 4", "a 1: c 3, d 5", "c 1", "c 2: a 1", "d 1", "d 2: a 6", "a 2")
	x.stands(t, "with the spot itself", "a 1", "a/c 3", "a/d 5", "a/d/a 6", "c 2", "d 4")
	x = of("root: a 1, c 2, d 4", "a 1: c 3, d 5", "c 1", "c 2", "d 1", "d 2: a 6", "a 2")
	x.stands(t, "with nothing", "a 1", "a/a 6", "a/c 3", "a/d 5", "c 2", "d 4")
}

// P14.1: spots at several levels, of which the one nearest to the root is taken.
func TestSeveralLevels(t *testing.T) {
	// n stands at a/n/n/n; x is needed by the last one, which has the root, a, a/n and a/n/n above it.
	for _, q := range []struct {
		what, root, a string
		at            string
	}{
		{"the root", "root: a 1, n 2", "a 1: n 3", "x 7"},
		{"below the root", "root: a 1, n 2, x 8", "a 1: n 3", "a/x 7"},
		{"below a", "root: a 1, n 2, x 8", "a 1: n 3, x 8", "a/n/x 7"},
		{"below a, which has its own", "root: a 1, n 2, x 8", "a 1: n 3, x 9", "a/n/x 7"},
	} {
		x := of(q.root, q.a, "n 1", "n 2: n 4", "n 3: n 5", "n 4: n 6", "n 5: x 7", "x 1", "x 2", "x 3")
		got, e := x.run()
		path, _, _ := cutLast(q.at)
		if place := at(got, path); e != api.OK || place < 0 || got.Dirs[place].Node != 7 {
			t.Errorf("%s: %s, error %d, not %s", q.what, flat(got), e, q.at)
		}
		x.asModel(t, q.what)
	}
	// Just at each level one, with the old tree liking each of them.
	base := of("root: a 1, n 2", "a 1: n 3", "n 1", "n 2: n 4", "n 3: n 5", "n 4: x 6", "x 1")
	levels := []string{"", "a/", "a/n/", "a/n/n/", "a/n/n/n/"}
	for i, level := range levels {
		old := []string{"a 1", "a/n 3", "a/n/n 4", "a/n/n/n 5"}
		liked := base.liking(append(old, level+"x 6")...)
		got, e := liked.run()
		if place := at(got, level+"x"); e != api.OK || place < 0 || got.Dirs[place].Node != 6 || len(got.Dirs) != 7 {
			t.Errorf("liked at %sx: %s, error %d", level, flat(got), e)
		}
		liked.asModel(t, "liked at "+level)
		// Of several that are liked the one nearest to the root.
		for _, lower := range levels[i+1:] {
			both := base.liking(append(old, level+"x 6", lower+"x 6")...)
			if again, e := both.run(); e != api.OK || flat(again) != flat(got) {
				t.Errorf("liked at %sx and %sx: %s, error %d", level, lower, flat(again), e)
			}
		}
	}
}

// cutLast cuts a text at its last blank.
func cutLast(s string) (string, string, bool) {
	for i := len(s) - 1; i >= 0; i-- {
		if s[i] == ' ' {
			return s[:i], s[i+1:], true
		}
	}
	return s, "", false
}

// P14.1: the old tree: the same package at a spot, another one there, the same one where there is no spot.
func TestOld(t *testing.T) {
	x := chapter()
	x.liking().stands(t, "the root alone", "a 1", "b 3", "c 2", "c/b 4")
	x.liking("a 1", "a/b 3").stands(t, "b of a in a", "a 1", "a/b 3", "b 4", "c 2")
	x.liking("b 3").stands(t, "b of a in the root", "a 1", "b 3", "c 2", "c/b 4")
	x.liking("a 1", "a/b 3", "b 3").stands(t, "b of a at both", "a 1", "b 3", "c 2", "c/b 4")
	x.liking("a 1", "a/b 4").stands(t, "another b in a", "a 1", "b 3", "c 2", "c/b 4")
	x.liking("a 1", "a/b 3", "b 4").stands(t, "b of a in a, the other one in the root", "a 1", "a/b 3", "b 4", "c 2")
	x.liking("c 2", "c/b 3").stands(t, "b of a in c", "a 1", "b 3", "c 2", "c/b 4")
	x.liking("a 1", "a/c 2", "a/c/b 3").stands(t, "b of a deeper", "a 1", "b 3", "c 2", "c/b 4")
	x.liking("c 2", "c/a 1", "c/b 4").stands(t, "a in c, where the root does not look", "a 1", "b 3", "c 2", "c/b 4")
	// The old tree's directories need not be there any more.
	x.liking("z 3").fails(t, "a directory that is not named as its package", api.ErrTree)
	of("root: a 1", "a 1: b 2", "b 1", "z 1").liking("z 3", "z/a 1", "z/b 2").stands(t, "in what is gone", "a 1", "b 2")
	// The name and version are the same, but not what it needs.
	y := chapter().liking("a 1", "a/b 3")
	for i := range 3 {
		other := y.clone()
		*listsOf(&other.packs[3])[i] = []api.Dep{{Name: "q", Range: []api.Span{{Lo: version(1, 0, 0), Hi: version(2, 0, 0)}}}}
		other.stands(t, "a package that needs something else", "a 1", "b 3", "c 2", "c/b 4")
	}
	// Which node the old tree tells does not matter.
	z := chapter().liking("a 1", "a/b 3")
	for i := range z.old.Dirs[1:] {
		z.old.Dirs[i+1].Node = 1000
	}
	z.stands(t, "other nodes", "a 1", "a/b 3", "b 4", "c 2")
}

// P14.1: what is liked is no spot: an edge is settled with what stands further up, or the name is taken.
func TestLikedIsNoSpot(t *testing.T) {
	x := of("root: a 1, b 2, x 4", "a 1: b 2, x 5", "b 1", "b 2", "x 1", "x 2: b 3")
	x.liking("a 1", "a/b 3").stands(t, "a settled edge", "a 1", "a/x 5", "a/x/b 3", "b 2", "x 4")
	x.liking("b 3").stands(t, "a name that is taken", "a 1", "a/x 5", "a/x/b 3", "b 2", "x 4")
	// What is found is not placed, whatever is liked.
	of("root: a 1, b 2", "a 1: b 2", "b 1").liking("a 1", "a/b 2").stands(t, "what is found", "a 1", "b 2")
	// Nor is a node with a context placed elsewhere.
	of("root: a 1, q 4", "a 1: p 2, q 3", "p 1 with q 1: q 3", "q 1", "q 2").liking("p 2").stands(t, "a node with a context", "a 1", "a/p 2", "a/q 3", "q 4")
}
