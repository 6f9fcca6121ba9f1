package resolve_test

import (
	"fmt"
	"strings"
	"testing"

	"halyard/api"
)

// P11.1: where a node's context has the want's Name, the version that it tells is tried, if it is in range; nothing else.
func TestWantInContext(t *testing.T) {
	// p has q beside it, and so r, which it wants of its own, too.
	all := func(p string) []string {
		return []string{"p 1.0.0; beside q; " + p, "q 1.0.0; beside r", "r 1.0.0", "r 2.0.0", "r 3.0.0"}
	}
	one := []string{"root: p 1, q 2, r 3", "p 1.0.0 with q 1.0.0, r 1.0.0: q 2, r 3", "q 1.0.0 with r 1.0.0: r 3", "r 1.0.0"}
	two := []string{"root: p 1, q 2, r 3", "p 1.0.0 with q 1.0.0, r 2.0.0: q 2, r 3", "q 1.0.0 with r 2.0.0: r 3", "r 2.0.0"}
	for _, word := range []string{"needs", "likes"} {
		of("needs p, q, r 2.0.0", all(word+" r")...).finds(t, word+" r: the context's", 4, two...)
		of("needs p, q, r 2.0.0", all(word+" r")...).liking("r 1.0.0, r 3.0.0").finds(t, word+" r: the context's, not the pins'", 4, two...)
		of("needs p, q, r 2.0.0", all(word+" r 2.0.0")...).finds(t, word+" r 2.0.0: the context's", 4, two...)
		of("needs p, q, r 2.0.0", all(word+" r 1.0.0 || 3.0.0")...).fails(t, word+" r, but not the context's", api.ErrUnsat)
		of("needs p, q, r <=2.0.0", all(word+" r ^1.0.0")...).finds(t, word+" r ^1.0.0: not the first one", 5, one...)
		of("needs p, q, r <=2.0.0", all(word+" r 4.0.0")...).fails(t, word+" what is not there", api.ErrUnsat)
		of("needs p, q; likes r", all(word+" r 4.0.0")...).fails(t, word+" what is not there", api.ErrUnsat)
		of("needs p, q, r <=2.0.0; pins r 1.0.0", all(word+" r 4.0.0")...).finds(t, word+" r, overridden", 4, one...)
	}
	// Without a context that has it, it is p's own affair.
	of("needs p, r 2.0.0", "p 1.0.0; likes r", "r 1.0.0", "r 2.0.0", "r 3.0.0").
		finds(t, "r without a context", 3, "root: p 1, r 2", "p 1.0.0: r 3", "r 2.0.0", "r 3.0.0")
	// A package may be beside itself, by way of another one, in another version than it is.
	of("needs p, q", "p 1.0.0; beside q", "p 2.0.0; beside q", "q 1.0.0; beside p 1.0.0; likes s").
		finds(t, "p in its own context", 5, "root: p 1, q 2", "p 1.0.0 with p 1.0.0, q 1.0.0: p 1, q 2", "q 1.0.0 with p 1.0.0, q 1.0.0: p 1, q 2")
}

// P11.1: a WantMay is dropped behind all versions, and that is a decision, too.
func TestDropped(t *testing.T) {
	of("likes a").finds(t, "nothing there", 1, "root")
	of("likes a, b, c").finds(t, "nothing there, thrice", 3, "root")
	of("likes a 1.0.0", "a 2.0.0", "b 1.0.0").finds(t, "nothing in range", 1, "root")
	of("likes a", "a 2.0.0").finds(t, "it is there", 1, "root: a 1", "a 2.0.0")
	of("likes a", "a 2.0.0; needs b", "a 1.0.0; needs b").finds(t, "it can't be had", 3, "root")
	of("likes a", "a 2.0.0; needs b", "a 1.0.0").finds(t, "it can be had in another version", 2, "root: a 1", "a 1.0.0")
	of("likes a", "a 1.0.0; beside b").finds(t, "its context does not stand", 2, "root")
	of("needs a", "a 1.0.0; likes b, c", "c 1.0.0").finds(t, "by a package", 3, "root: a 1", "a 1.0.0: c 2", "c 1.0.0")
	of("needs a", "a 1.0.0; likes b", "b 1.0.0; needs c", "b 2.0.0; likes c").finds(t, "by a package, of a package", 3, "root: a 1", "a 1.0.0: b 2", "b 2.0.0")
	// What was dropped is there again behind a step back: a 2, b, d (b has no a 1); NONE, d (which has no b); a 1, b, d.
	of("needs a, d; likes b", "a 1.0.0", "a 2.0.0", "b 1.0.0; beside a 1.0.0", "d 1.0.0; beside b").
		finds(t, "dropped, and not", 8, "root: a 1, b 2, d 3", "a 1.0.0", "b 1.0.0 with a 1.0.0: a 1", "d 1.0.0 with a 1.0.0, b 1.0.0: a 1, b 2")
	// A must is never dropped.
	of("needs a").fails(t, "what must be there", api.ErrUnsat)
	of("needs a; likes b", "a 1.0.0; needs c", "b 1.0.0").fails(t, "what must be there behind it", api.ErrUnsat)
}

// P11.1: a WantMay is dropped only behind a step back over what else was tried behind it.
func TestDroppedBehindStepBack(t *testing.T) {
	x := of("likes b; needs d", "b 1.0.0; needs c", "c 1.0.0; likes e; needs f", "d 1.0.0; needs e", "e 1.0.0", "e 2.0.0")
	// b, d; c; d's e 2, and for that c's e 2, e 1, NONE; d's e 1, and the same; then NONE for b, d, e 2.
	x.finds(t, "dropped at last", 2+1+4+4+3, "root: d 1", "d 1.0.0: e 2", "e 2.0.0")
	// a, b, c; NONE for c, though it is b that can't be had; NONE for b, c.
	of("likes a, b, c", "a 1.0.0", "b 1.0.0; needs x", "c 1.0.0").
		finds(t, "the one in the middle", 6, "root: a 1, c 2", "a 1.0.0", "c 1.0.0")
}

// P11.1: a want without any candidate: the search steps back, without a decision.
func TestNoCandidate(t *testing.T) {
	of("needs a").fails(t, "nothing there", api.ErrUnsat)
	of("needs a").within(1, 1).fails(t, "nothing there, in the least limits", api.ErrUnsat)
	of("needs a 2.0.0", "a 1.0.0").fails(t, "nothing in range", api.ErrUnsat)
	of("needs a, b", "a 1.0.0").within(1, 1).fails(t, "nothing there of the second one", api.ErrUnsat)
	of("needs a, b", "a 1.0.0", "a 2.0.0").within(2, 1).fails(t, "nothing there of the second one, twice", api.ErrUnsat)
	of("needs a, b", "a 1.0.0", "a 2.0.0").within(1, 1).fails(t, "nothing there of the second one, twice", api.ErrBudget)
	of("likes a; needs b").within(1, 1).fails(t, "nothing there behind a dropped one", api.ErrUnsat)
	of("needs a", "a 1.0.0; needs b, c", "a 2.0.0; needs b, c", "b 1.0.0", "b 2.0.0").fails(t, "nothing there of a package's", api.ErrUnsat)
	of("needs a", "a 1.0.0", "a 2.0.0; needs b, c", "b 1.0.0", "b 2.0.0").finds(t, "but of another one's", 4, "root: a 1", "a 1.0.0")
}

// P11.1: each candidate that is tried is a decision, also one that is tried once more behind a step back.
func TestCountedAgain(t *testing.T) {
	// a 3, b 2, b 1, a 2, b 2, b 1, a 1, b 2.
	all := []string{"a 1.0.0", "a 2.0.0; needs x", "a 3.0.0; needs x", "b 1.0.0", "b 2.0.0"}
	of("needs a, b", all...).finds(t, "two of b, for each of a", 8, "root: a 1, b 2", "a 1.0.0", "b 2.0.0")
	of("needs b, c", "b 1.0.0", "b 2.0.0", "c 1.0.0; beside b 1.0.0").finds(t, "c once more", 4, "root: b 1, c 2", "b 1.0.0", "c 1.0.0 with b 1.0.0: b 1")
	of("likes y; needs b, c", "b 1.0.0", "b 2.0.0", "c 1.0.0; beside b 1.0.0").finds(t, "NONE once more", 6, "root: b 1, c 2", "b 1.0.0", "c 1.0.0 with b 1.0.0: b 1")
	// The one of the context is a decision, too, each time.
	of("needs p, q, r", "p 1.0.0; beside q; needs r", "q 1.0.0; beside r; needs x 1.0.0", "q 0.0.0; beside r", "r 1.0.0", "r 2.0.0").
		finds(t, "the context's once more", 3+1+2+1+2, "root: p 1, q 2, r 3", "p 1.0.0 with q 0.0.0, r 2.0.0: q 2, r 3", "q 0.0.0 with r 2.0.0: r 3", "r 2.0.0")
}

// P11.1: if a context does not stand, the search steps back.
func TestContextDoesNotStand(t *testing.T) {
	of("needs p", "p 1.0.0; beside b", "b 1.0.0").fails(t, "it is not there", api.ErrUnsat)
	of("needs b 2.0.0, p", "p 1.0.0; beside b 1.0.0", "b 1.0.0", "b 2.0.0").fails(t, "it is not in range", api.ErrUnsat)
	of("needs p; likes b", "p 1.0.0; beside b", "b 1.0.0; needs x").fails(t, "it is dropped", api.ErrUnsat)
	of("needs b, p", "p 1.0.0; beside b", "b 1.0.0; beside c", "c 1.0.0").fails(t, "a peer of a peer is not there", api.ErrUnsat)
	of("needs b, c, p", "p 1.0.0; beside b, c 2.0.0", "b 1.0.0; beside c 1.0.0", "c 1.0.0", "c 2.0.0").fails(t, "two of them do not agree", api.ErrUnsat)
	of("needs p; dev b", "p 1.0.0; beside b", "b 1.0.0").without().fails(t, "it is for developing only", api.ErrUnsat)
	of("needs a", "a 1.0.0; needs p", "p 1.0.0; beside b", "b 1.0.0").fails(t, "of a package's", api.ErrUnsat)
	of("needs a, b", "a 1.0.0; needs p", "p 1.0.0; beside b", "b 1.0.0").fails(t, "the root has it, but not the dependant", api.ErrUnsat)
	of("needs a, b", "a 1.0.0; beside b; needs p", "p 1.0.0; beside b", "b 1.0.0").
		finds(t, "the dependant has it beside it", 3, "root: a 1, b 2", "a 1.0.0 with b 1.0.0: b 2, p 3", "b 1.0.0", "p 1.0.0 with b 1.0.0: b 2")
	of("needs b, p", "p 1.0.0; beside b", "p 2.0.0; beside b 2.0.0", "b 1.0.0").
		finds(t, "an older one will do", 3, "root: b 1, p 2", "b 1.0.0", "p 1.0.0 with b 1.0.0: b 1")
}

// P11.1: all contexts are looked at ahead of any node that is made.
func TestContextsAheadOfNodes(t *testing.T) {
	x := of("needs c 1.0.0, k, p", "c 1.0.0", "c 2.0.0", "k 1.0.0; needs c, p", "p 1.0.0; beside c 1.0.0")
	// For c 2.0.0, which k leads to first, there is no room; but p does not stand beside it.
	x.within(100, 4).finds(t, "no room for what is not made", 7, "root: c 1, k 2, p 3", "c 1.0.0", "k 1.0.0: c 1, p 3", "p 1.0.0 with c 1.0.0: c 1")
}

// P11.1: an edge leads to the node of this Name, version and context, if there is one.
func TestNodesThatAreThere(t *testing.T) {
	of("needs a, b", "a 1.0.0; needs c", "b 1.0.0; needs c", "c 1.0.0").
		finds(t, "one node for both", 4, "root: a 1, b 2", "a 1.0.0: c 3", "b 1.0.0: c 3", "c 1.0.0")
	of("needs a, b", "a 1.0.0; needs c <2.0.0", "b 1.0.0; needs c", "c 1.0.0", "c 2.0.0").
		finds(t, "two versions", 4, "root: a 1, b 2", "a 1.0.0: c 3", "b 1.0.0: c 4", "c 1.0.0", "c 2.0.0")
	of("needs a, b", "a 1.0.0; needs p, r 1.0.0", "b 1.0.0; needs p, r 2.0.0", "p 1.0.0; beside r", "r 1.0.0", "r 2.0.0").
		finds(t, "two contexts", 6, "root: a 1, b 2", "a 1.0.0: p 3, r 4", "b 1.0.0: p 5, r 6", "p 1.0.0 with r 1.0.0: r 4", "r 1.0.0", "p 1.0.0 with r 2.0.0: r 6", "r 2.0.0")
	of("needs a, b", "a 1.0.0; needs p, r 1.0.0", "b 1.0.0; needs p, r 1.0.0", "p 1.0.0; beside r", "r 1.0.0", "r 2.0.0").
		finds(t, "one context", 6, "root: a 1, b 2", "a 1.0.0: p 3, r 4", "b 1.0.0: p 3, r 4", "p 1.0.0 with r 1.0.0: r 4", "r 1.0.0")
	// One version of one package, once with a context of one name, once with one of two.
	of("needs a, b", "a 1.0.0; needs p, q, s", "b 1.0.0; needs p, q 1.0.0", "p 1.0.0; beside q", "q 1.0.0", "q 2.0.0; beside s", "s 1.0.0").
		finds(t, "contexts of other names", 7, "root: a 1, b 2", "a 1.0.0: p 3, q 4, s 5", "b 1.0.0: p 6, q 7", "p 1.0.0 with q 2.0.0, s 1.0.0: q 4, s 5", "q 2.0.0 with s 1.0.0: s 5", "s 1.0.0", "p 1.0.0 with q 1.0.0: q 7", "q 1.0.0")
}

// P11.1: to step back takes all back that was bound and made behind the candidate, over several nodes.
func TestStepBackOverNodes(t *testing.T) {
	x := of("needs a, b", "a 1.0.0", "a 2.0.0; needs c", "b 1.0.0; needs d", "c 1.0.0; needs e", "d 1.0.0", "e 1.0.0; needs g")
	// a 2, b, c, d, e, which has no g; then a 1, b, d.
	want := []string{"root: a 1, b 2", "a 1.0.0", "b 1.0.0: d 3", "d 1.0.0"}
	x.finds(t, "over five nodes", 8, want...)
	x.within(8, 6).finds(t, "over five nodes, in just these limits", 8, want...)
	x.within(8, 5).fails(t, "over five nodes, of which one is too many", api.ErrTooMany)
	x.within(7, 6).fails(t, "over five nodes, a decision less", api.ErrBudget)
	// What was made behind it is made anew elsewhere: d stands ahead of c at first, and behind it then.
	y := of("needs a, b", "a 1.0.0; needs c", "a 2.0.0; needs c, d", "b 1.0.0; needs c, d, e", "c 1.0.0; needs f 1.0.0", "c 2.0.0; needs f 2.0.0", "d 1.0.0", "e 1.0.0; beside c 1.0.0", "f 1.0.0")
	// a 2, b; c 2, d; b's c 2, d, e (does not stand), c 1, d, e; c 2 has no f; so a's c is 1: d; b's c 2, d, e, c 1, d, e; f.
	y.finds(t, "c in another version", 19, "root: a 1, b 2", "a 2.0.0: c 3, d 4", "b 1.0.0: c 3, d 4, e 5", "c 1.0.0: f 6", "d 1.0.0", "e 1.0.0 with c 1.0.0: c 3", "f 1.0.0")
	// Nodes that were made ahead of the candidate stay, and so do those that were bound.
	z := of("needs a, b, c", "a 1.0.0; needs d", "b 1.0.0; needs e", "c 1.0.0; likes d, e", "d 1.0.0; needs h", "e 2.0.0; needs g", "e 1.0.0", "h 1.0.0")
	// a, b, c; d; e 2, which has no g. Till then c's d, and its e 2, e 1, NONE, each with h; the same with NONE for d; then b's e 1, c's d, e 2, h; e 1, h.
	z.finds(t, "in the middle", 3+1+1+(1+3*2)+(1+3*2)+1+3+2, "root: a 1, b 2, c 3", "a 1.0.0: d 4", "b 1.0.0: e 5", "c 1.0.0: d 4, e 5", "d 1.0.0: h 6", "e 1.0.0", "h 1.0.0")
}

// P11.1: the search steps back over nodes without a want, which have no decision of their own.
func TestStepBackOverNodesWithoutWants(t *testing.T) {
	of("needs a, b, c, d", "a 1.0.0", "a 2.0.0", "b 1.0.0", "c 1.0.0; beside a 1.0.0", "d 1.0.0").
		finds(t, "within the root", 4+4, "root: a 1, b 2, c 3, d 4", "a 1.0.0", "b 1.0.0", "c 1.0.0 with a 1.0.0: a 1", "d 1.0.0")
	of("needs a, b, c, d", "a 1.0.0", "b 1.0.0", "c 1.0.0", "d 1.0.0", "d 2.0.0; needs x").
		finds(t, "over four nodes", 5, "root: a 1, b 2, c 3, d 4", "a 1.0.0", "b 1.0.0", "c 1.0.0", "d 1.0.0")
}

// P11.1: rings of packages.
func TestRings(t *testing.T) {
	of("needs a", "a 1.0.0; needs a").finds(t, "itself", 2, "root: a 1", "a 1.0.0: a 1")
	of("needs a 1.0.0", "a 1.0.0; needs a", "a 2.0.0; needs a 1.0.0").finds(t, "itself, over another version", 3, "root: a 1", "a 1.0.0: a 2", "a 2.0.0: a 1")
	of("needs a", "a 1.0.0; needs b", "b 1.0.0; needs a").finds(t, "two", 3, "root: a 1", "a 1.0.0: b 2", "b 1.0.0: a 1")
	of("needs b", "a 1.0.0; needs b", "b 1.0.0; needs c", "c 1.0.0; likes a").finds(t, "three", 4, "root: b 1", "b 1.0.0: c 2", "c 1.0.0: a 3", "a 1.0.0: b 1")
	of("needs a, b", "a 1.0.0; beside b", "b 1.0.0; beside a").
		finds(t, "beside one another", 2, "root: a 1, b 2", "a 1.0.0 with a 1.0.0, b 1.0.0: a 1, b 2", "b 1.0.0 with a 1.0.0, b 1.0.0: a 1, b 2")
	of("needs a", "a 1.0.0; beside a").finds(t, "beside itself", 1, "root: a 1", "a 1.0.0 with a 1.0.0: a 1")
	of("needs a", "a 1.0.0; beside a 2.0.0", "a 2.0.0; beside a 1.0.0").fails(t, "beside another version of itself", api.ErrUnsat)
	of("needs a", "a 1.0.0; beside b", "b 1.0.0; beside a").fails(t, "beside one that is not there", api.ErrUnsat)
	of("needs a, b", "a 1.0.0; beside b; needs c", "b 1.0.0; needs c", "c 1.0.0; needs a, b").
		finds(t, "a ring with a context", 6, "root: a 1, b 2", "a 1.0.0 with b 1.0.0: b 2, c 3", "b 1.0.0: c 3", "c 1.0.0: a 1, b 2")
	of("needs a, b", "a 1.0.0; beside b; needs c", "b 1.0.0", "b 2.0.0", "c 1.0.0; needs a, b 1.0.0").
		finds(t, "a ring with two contexts", 6, "root: a 1, b 2", "a 1.0.0 with b 2.0.0: b 2, c 3", "b 2.0.0", "c 1.0.0: a 4, b 5", "a 1.0.0 with b 1.0.0: b 5, c 3", "b 1.0.0")
}

// P11.1: peers of peers are in the context, and so are edges of each that has it.
func TestPeersOfPeers(t *testing.T) {
	all := []string{"a 1.0.0; beside b", "b 1.0.0; beside c", "c 1.0.0; beside d", "d 1.0.0", "d 2.0.0", "e 1.0.0; beside d 1.0.0; needs f", "f 1.0.0; beside d"}
	of("needs a, b, c, d", all...).finds(t, "a chain", 4, "root: a 1, b 2, c 3, d 4",
		"a 1.0.0 with b 1.0.0, c 1.0.0, d 2.0.0: b 2, c 3, d 4", "b 1.0.0 with c 1.0.0, d 2.0.0: c 3, d 4", "c 1.0.0 with d 2.0.0: d 4", "d 2.0.0")
	of("needs a, b, c, d, e", all...).finds(t, "a chain whose last one is older", 5+2+1, "root: a 1, b 2, c 3, d 4, e 5",
		"a 1.0.0 with b 1.0.0, c 1.0.0, d 1.0.0: b 2, c 3, d 4", "b 1.0.0 with c 1.0.0, d 1.0.0: c 3, d 4", "c 1.0.0 with d 1.0.0: d 4", "d 1.0.0", "e 1.0.0 with d 1.0.0: d 4, f 6", "f 1.0.0 with d 1.0.0: d 4")
	of("needs a, b, c", all...).fails(t, "a chain that breaks", api.ErrUnsat)
	of("needs a, c, d", all...).fails(t, "a chain that breaks at once", api.ErrUnsat)
}

// P11.1: contexts of any size stay as they are while a node's own wants are put beside them.
func TestGreatContexts(t *testing.T) {
	for count := 1; count < api.MaxList; count++ {
		all := []string{"a 1.0.0"}
		nodes, names, context, led := []string{}, []string{}, []string{}, []string{}
		for i := range count {
			n := fmt.Sprintf("n%02d", i)
			all, names, context = append(all, n+" 1.0.0"), append(names, n), append(context, n+" 1.0.0")
			led, nodes = append(led, fmt.Sprintf("%s %d", n, i+1)), append(nodes, n+" 1.0.0")
		}
		beside := strings.Join(names, ", ")
		// a stands ahead of the context's names, z would stand behind them.
		all = append(all, "p 1.0.0; needs a; beside "+beside+"; likes z")
		nodes = append([]string{fmt.Sprintf("root: %s, p %d", strings.Join(led, ", "), count+1)}, nodes...)
		nodes = append(nodes, fmt.Sprintf("p 1.0.0 with %s: a %d, %s", strings.Join(context, ", "), count+2, strings.Join(led, ", ")), "a 1.0.0")
		of("needs "+beside+", p", all...).finds(t, "a great context", count+3, nodes...)
	}
}

// P11.1: ErrUnsat behind a search that went back to its beginning: each way on was tried.
func TestBackToTheBeginning(t *testing.T) {
	x := of("needs a; likes b", "a 1.0.0; needs c", "a 2.0.0; needs c; likes b", "b 1.0.0", "b 2.0.0", "c 1.0.0; needs x", "c 2.0.0; beside y")
	// Of a 2 and each of b 2, b 1, NONE: b 2, c 2, c 1 (no x), and so on for b 1 and NONE. Of a 1 and each of b: c 2, c 1.
	const all = (1 + 3*(1+3*3)) + (1 + 3*3)
	x.within(all, 20).fails(t, "all ways on", api.ErrUnsat)
	x.within(all-1, 20).fails(t, "all ways on but one", api.ErrBudget)
	of("needs a", "a 1.0.0; beside b").within(1, 1).fails(t, "one way on", api.ErrUnsat)
}

// P11.1: the first decision that is too many, and one less, wherever it stands.
func TestDecisions(t *testing.T) {
	for count := 1; count <= api.MaxList; count++ {
		var names []string
		for i := range count {
			names = append(names, fmt.Sprintf("n%02d", i))
		}
		x := of("likes " + strings.Join(names, ", "))
		x.within(count, 1).finds(t, "so many that are dropped", count, "root")
		if count > 1 {
			x.within(count-1, 1).fails(t, "one too many", api.ErrBudget)
		}
	}
	// The last one is a candidate behind a step back, and one of a package.
	x := of("needs a, b", "a 1.0.0; likes y", "a 2.0.0; needs x", "b 1.0.0")
	x.within(5, 20).finds(t, "five", 5, "root: a 1, b 2", "a 1.0.0", "b 1.0.0")
	for i, want := range []api.Errno{api.ErrArg, api.ErrBudget, api.ErrBudget, api.ErrBudget, api.ErrBudget} {
		if _, _, e := x.within(i, 20).run(); e != want {
			t.Errorf("%d decisions: error %d, not %d", i, e, want)
		}
	}
	// Where both would come about, the one that comes first counts.
	chapter("needs a").within(2, 1).fails(t, "too many nodes ahead of too many decisions", api.ErrTooMany)
	chapter("needs a, b").within(1, 1).fails(t, "too many decisions ahead of too many nodes", api.ErrBudget)
}

// P11.1: the first node that is too many, and one less; those count that stand, the root too.
func TestNodes(t *testing.T) {
	x, want := chain(10)
	for i := range 11 {
		if i > 0 {
			x.within(100, i).fails(t, "a chain that is too long", api.ErrTooMany)
		}
	}
	x.within(100, 11).finds(t, "a chain", 10, want...)
	// Of one node's edges the last one may be the one that is too many.
	y := of("needs a, b, c", "a 1.0.0", "b 1.0.0", "c 1.0.0")
	y.within(9, 4).finds(t, "three", 3, "root: a 1, b 2, c 3", "a 1.0.0", "b 1.0.0", "c 1.0.0")
	for nodes := 1; nodes < 4; nodes++ {
		y.within(9, nodes).fails(t, "three and too few", api.ErrTooMany)
	}
	// What was taken back counts no more: five times three nodes, none of them at one time with others.
	z := of("needs a", "a 1.0.0", "a 2.0.0; needs b, c", "a 3.0.0; needs b, c", "a 4.0.0; needs b, c", "a 5.0.0; needs b, c", "b 1.0.0; needs x", "c 1.0.0")
	z.within(100, 4).finds(t, "nodes that were taken back", 1+4*3, "root: a 1", "a 1.0.0")
	z.within(100, 3).fails(t, "one node too many, though it would be taken back", api.ErrTooMany)
	// No step back where there are too many, though another version would do with less.
	of("needs a", "a 1.0.0", "a 2.0.0; needs b", "b 1.0.0").within(100, 2).fails(t, "an older one would do", api.ErrTooMany)
	of("likes a", "a 1.0.0").within(100, 1).fails(t, "none would do", api.ErrTooMany)
}

// chain is packages that need one another, each the next one, and the nodes of their graph.
func chain(count int) (task, []string) {
	var all []string
	nodes := []string{"root: n001 1"}
	for i := range count {
		p, n := fmt.Sprintf("n%03d 1.0.0", i+1), fmt.Sprintf("n%03d 1.0.0", i+1)
		if i+1 < count {
			p += fmt.Sprintf("; needs n%03d", i+2)
			n += fmt.Sprintf(": n%03d %d", i+2, i+2)
		}
		all, nodes = append(all, p), append(nodes, n)
	}
	return of("needs n001", all...), nodes
}

// P11.1: MaxNodes nodes may be, one more may not.
func TestMaxNodes(t *testing.T) {
	x, want := chain(127)
	x.within(api.MaxDecisions, api.MaxNodes).finds(t, "a chain as long as may be", 127, want...)
	x, _ = chain(128)
	x.within(api.MaxDecisions, api.MaxNodes).fails(t, "a chain of one more", api.ErrTooMany)
}

// P11.1: MaxDecisions decisions may be, one more may not.
func TestMaxDecisions(t *testing.T) {
	// 64 of a, and for each 63 of b, are as many decisions as may be; only the very last one will do, or none.
	all := []string{"b 0.0.0; beside a 0.0.0"}
	for i := range 64 {
		all = append(all, fmt.Sprintf("a %d.0.0", i))
	}
	for i := range 62 {
		all = append(all, fmt.Sprintf("b %d.0.0; beside z", i+1))
	}
	x := of("needs a, b", all...).within(api.MaxDecisions, api.MaxNodes)
	x.finds(t, "the last decision that may be", 4096, "root: a 1, b 2", "a 0.0.0", "b 0.0.0 with a 0.0.0: a 1")
	x.within(api.MaxDecisions-1, api.MaxNodes).fails(t, "one decision less", api.ErrBudget)
	x.m = project("needs a, b >0.0.0")
	x.within(64+64*62, 128).fails(t, "all ways on", api.ErrUnsat)
	x.within(64+64*62-1, 128).fails(t, "all ways on but one", api.ErrBudget)
	x.m = project("needs a, b; likes c")
	x.fails(t, "more than may be", api.ErrBudget)
}
