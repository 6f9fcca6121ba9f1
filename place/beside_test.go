package place_test

import (
	"testing"

	"halyard/api"
)

// P14.1: what the context has is looked up, and is there.
func TestContext(t *testing.T) {
	of("root: p 1, q 2", "p 1 with q 1: q 2", "q 1").stands(t, "beside it", "p 1", "q 2")
	of("root: a 1, q 4", "a 1: p 2, q 3", "p 1 with q 2: q 3", "q 2", "q 1").stands(t, "beside it in a", "a 1", "a/p 2", "a/q 3", "q 4")
	of("root: a 1, q 3, x 5", "a 1: p 2, q 3, x 6", "p 1 with q 1: q 3", "q 1", "z 1", "x 1", "x 2").stands(t, "beside it further up", "a 1", "a/p 2", "a/x 6", "q 3", "x 5")
	of("root: p 1, q 2, r 3", "p 1 with q 1, r 1: q 2, r 3", "q 1 with r 1: r 3", "r 1").stands(t, "a context in a context", "p 1", "q 2", "r 3")
	of("root: p 1, q 2", "p 1 with p 1, q 1: p 1, q 2", "q 1 with p 1, q 1: p 1, q 2").stands(t, "each beside the other one", "p 1", "q 2")
	of("root: p 1", "p 1 with p 1: p 1").stands(t, "beside itself", "p 1")
	// The root has no edge q, but q is there when p is gone through.
	of("root: a 1, p 2", "a 1: q 3", "p 1 with q 1: q 3", "q 1").stands(t, "beside it by chance", "a 1", "p 2", "q 3")
}

// P14.1: what the context has is not found, or another node is.
func TestContextThatIsNotThere(t *testing.T) {
	of("root: p 1", "p 1 with q 1: q 2", "q 1").fails(t, "nothing is found", api.ErrGraph)
	of("root: p 1, q 3", "p 1 with q 1: q 2", "q 1", "q 2").fails(t, "another version is found", api.ErrGraph)
	of("root: p 1, q 3", "p 1 with q 1: q 2", "q 1", "q 1").fails(t, "a node that is alike is found", api.ErrGraph)
	of("root: p 1, q 3, r 4", "p 1 with q 1: q 2", "q 1", "q 1 with r 1: r 4", "r 1").fails(t, "a node with another context is found", api.ErrGraph)
	// It comes too late: b is gone through behind p.
	of("root: a 1, p 2", "a 1: b 4", "p 1 with q 1: q 3", "q 1", "b 1: q 3").fails(t, "it is not there yet", api.ErrGraph)
	// It is there, but where p does not look.
	of("root: a 1, p 2, q 5", "a 1: q 3", "p 1 with q 1: q 3", "q 1", "b 1", "q 2").fails(t, "it stands in a", api.ErrGraph)
	// It is not placed for a context, though there is room.
	of("root: a 1", "a 1: p 2", "p 1 with q 1, r 1: q 3, r 4", "q 1", "r 1").fails(t, "of two names none", api.ErrGraph)
	of("root: a 1", "a 1: p 2, q 3", "p 1 with q 1, r 1: q 3, r 4", "q 1", "r 1").fails(t, "of two names one", api.ErrGraph)
}

// P14.1: edges of the context come first, then those to nodes without one, then those to nodes with one; each kind by label.
func TestKindsInOrder(t *testing.T) {
	// a has a context, b has none: b is placed first, and gone through first, so that x 2 stands in the root's modules.
	of("root: a 1, b 2, z 3", "a 1 with z 1: x 4, z 3", "b 1: x 5", "z 1", "x 1", "x 2").stands(t, "b ahead of a", "a 1", "a/x 4", "b 2", "x 5", "z 3")
	of("root: a 1, b 2, z 3", "a 1: x 4", "b 1: x 5", "z 1", "x 1", "x 2").stands(t, "a ahead of b", "a 1", "b 2", "b/x 5", "x 4", "z 3")
	// Of those with a context a comes first.
	of("root: a 1, b 2, z 3", "a 1 with z 1: x 4, z 3", "b 1 with z 1: x 5, z 3", "z 1", "x 1", "x 2").stands(t, "both with a context", "a 1", "b 2", "b/x 5", "x 4", "z 3")
	// The node of an edge of the context may have a context itself; it is not placed, though p could not take it.
	of("root: a 1, q 2, r 3, x 6", "a 1: q 2, r 3, x 5", "q 1 with r 1: r 3", "r 1", "z 1", "x 2 with q 1, r 1: q 2, r 3", "x 1").stands(t, "a context with a context", "a 1", "a/x 5", "q 2", "r 3", "x 6")
	// What the context lacks is told ahead of what has no room.
	p := of("root: p 1", "p 1 with z 1: a 2, z 3", "a 1", "z 1")
	p.within(1, 1024).fails(t, "the context ahead of a", api.ErrGraph)
	of("root: p 1", "p 1: a 2, z 3", "a 1", "z 1").within(1, 1024).fails(t, "without a context", api.ErrTooDeep)
}

// P14.1: a node with a context is found, and sees just the same directories.
func TestFoundAndSeesTheSame(t *testing.T) {
	of("root: a 1, p 2, q 3", "a 1: p 2, q 3", "p 1 with q 1: q 3", "q 1").stands(t, "one name", "a 1", "p 2", "q 3")
	of("root: a 1, p 2, q 3, r 4", "a 1: p 2, q 3, r 4", "p 1 with q 1, r 1: q 3, r 4", "q 1", "r 1").stands(t, "two names", "a 1", "p 2", "q 3", "r 4")
	// z and its q stand in a, where x finds both.
	x := of("root: a 1, q 5, x 6", "a 1: p 2, q 3, x 4", "p 1 with q 2: q 3", "q 2", "x 2: p 2, q 3", "q 1", "x 1")
	x.stands(t, "in a", "a 1", "a/p 2", "a/q 3", "a/x 4", "q 5", "x 6")
	// The label of a node with a context stands ahead of z, which has one too: z takes p, which is settled by then.
	of("root: a 1, p 2, q 3, z 4", "a 1: p 2, q 3, z 4", "p 1 with q 1: q 3", "q 1", "z 1 with p 1, q 1: p 2, q 3").stands(t, "names with contexts", "a 1", "p 2", "q 3", "z 4")
	// p, a node with a context, finds another such node by an edge that is not of its context.
	of("root: p 1, q 2, s 3", "p 1 with q 1: q 2, s 3", "q 1", "s 1 with q 1: q 2").stands(t, "of a node with a context", "p 1", "q 2", "s 3")
}

// P14.1: a node with a context is found, but a name of the context sees another directory, or is not settled: it is placed in the directory's own modules.
func TestFoundAndSeesOthers(t *testing.T) {
	// a/x has a q of its own, of the node that p at the root has beside it.
	x := of("root: a 1, p 2, q 3, x 6", "a 1: q 5, x 4", "p 1 with q 1: q 3", "q 1", "x 2: p 2, q 3", "q 2", "x 1")
	x.stands(t, "another directory of the same node", "a 1", "a/q 5", "a/x 4", "a/x/p 2", "a/x/q 3", "p 2", "q 3", "x 6")
	// One of two names will do, the other one will not.
	x = of("root: a 1, p 2, q 3, r 7, x 6", "a 1: q 5, x 4", "p 1 with q 1, r 1: q 3, r 7", "q 1", "x 2: p 2, q 3, r 7", "q 2", "x 1", "r 1")
	x.stands(t, "the first name", "a 1", "a/q 5", "a/x 4", "a/x/p 2", "a/x/q 3", "p 2", "q 3", "r 7", "x 6")
	x = of("root: a 1, o 7, p 2, q 3, x 6", "a 1: q 5, x 4", "p 1 with o 1, q 1: o 7, q 3", "q 1", "x 2: o 7, p 2, q 3", "q 2", "x 1", "o 1")
	x.stands(t, "the second name", "a 1", "a/q 5", "a/x 4", "a/x/p 2", "a/x/q 3", "o 7", "p 2", "q 3", "x 6")
	// a has no edge q at all.
	of("root: a 1, p 2, q 3", "a 1: p 2", "p 1 with q 1: q 3", "q 1").stands(t, "a name without an edge", "a 1", "a/p 2", "p 2", "q 3")
	// z has a context, and its label comes behind p: when p's turn comes it is not settled yet.
	of("root: a 1, p 2, q 3, z 4", "a 1: p 2, q 3, z 4", "p 1 with q 1, z 1: q 3, z 4", "q 1", "z 1 with q 1: q 3").stands(t, "a name that is not settled yet", "a 1", "a/p 2", "p 2", "q 3", "z 4")
	of("root: a 1, p 2", "a 1: p 2", "p 1 with p 1: p 2").stands(t, "its own name", "a 1", "a/p 2", "p 2")
}

// P14.1: a node with a context is not found: nothing is, or another node; it is placed in the directory's own modules.
func TestBesideInOwnModules(t *testing.T) {
	of("root: a 1, q 3", "a 1: p 2, q 3", "p 1 with q 1: q 3", "q 1").stands(t, "nothing is found", "a 1", "a/p 2", "q 3")
	of("root: a 1, p 4, q 3", "a 1: p 2, q 3", "p 1 with q 1: q 3", "q 1", "p 2 with q 1: q 3").stands(t, "another version is found", "a 1", "a/p 2", "p 4", "q 3")
	of("root: a 1, p 4, q 3", "a 1: p 2, q 5", "p 1 with q 2: q 5", "q 1", "p 1 with q 1: q 3", "q 2").stands(t, "another context is found", "a 1", "a/p 2", "a/q 5", "p 4", "q 3")
	of("root: a 1, b 4, q 3", "a 1: p 2, q 3", "p 1 with q 1: q 3", "q 1", "b 1: p 2, q 3").stands(t, "once in each", "a 1", "a/p 2", "b 4", "b/p 2", "q 3")
	of("root: a 1, q 3, x 5", "a 1: x 4", "p 1 with q 1: q 3", "q 1", "x 2: p 2, q 3", "x 1").stands(t, "deep down", "a 1", "a/x 4", "a/x/p 2", "q 3", "x 5")
}

// P14.1: graphs that go round end: all is found in the end, or there is no more room.
func TestRound(t *testing.T) {
	of("root: a 1", "a 1: b 2", "b 1: a 1").stands(t, "two round", "a 1", "b 2")
	of("root: a 1", "a 1: b 2", "b 1: c 3", "c 1: a 1").stands(t, "three round", "a 1", "b 2", "c 3")
	of("root: a 1, c 3", "a 1: b 2", "b 1: a 1", "c 1: b 4", "b 2: a 5", "a 2: b 4").stands(t, "two rounds", "a 1", "b 2", "c 3", "c/a 5", "c/b 4")
	// Two versions of each that lead round to one another: no tree has an end.
	ring := of("root: a 1", "a 1: b 2", "b 1: a 3", "a 2: b 4", "b 2: a 1")
	ring.fails(t, "a ring of versions", api.ErrTooLong)
	ring.within(api.MaxDirs, 40).fails(t, "a ring of versions in a short path", api.ErrTooLong)
	ring.within(7, api.MaxPath).fails(t, "a ring of versions in few directories", api.ErrTooDeep)
	// Nodes with contexts that go round.
	of("root: p 1, q 2", "p 1 with q 1: q 2, s 3", "q 1", "s 1 with q 1: p 1, q 2").stands(t, "contexts round", "p 1", "p/s 3", "q 2")
	// x 1 has an x 2 in it, that an x 1, and so on.
	deep := of("root: q 3, x 1", "x 1: q 3, x 2", "x 2: q 3, x 1", "q 1")
	deep.fails(t, "a row without an end", api.ErrTooLong)
	deep.within(50, api.MaxPath).fails(t, "a row without an end in few directories", api.ErrTooDeep)
}
