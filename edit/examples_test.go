package edit_test

import (
	"testing"

	"halyard/api"
)

// chapter is the catalog of the chapter's examples.
func chapter() []string { return []string{"a 1.0.0; needs b ^1.0.0", "b 1.0.0", "b 1.2.0"} }

// The chapter's examples.
func TestExamples(t *testing.T) {
	p := begun(t, published(chapter()...))
	p.comesTo(add("a", "*", 0), 2, "a 1.0.0", "b 1.2.0")
	if len(p.s.Graph.Nodes) != 3 {
		t.Error(flat(p.s))
	}
	p.refuses(add("a", ">1.0.0", 0), api.ErrUnsat)
	p.refuses(add("A", "*", 0), api.ErrName)
	p.refuses(add("a", "x", 0), api.ErrRange)
	p.refuses(add("a", "*", 3), api.ErrArg)
	p.refuses(remove("b"), api.ErrWant)
	p.refuses(update("c"), api.ErrWant)
	p.comesTo(override("b", "1.0.0"), 2, "a 1.0.0", "b 1.0.0")
	p.comesTo(override("b", ""), 2, "a 1.0.0", "b 1.0.0")
	p.comesTo(update("b"), 2, "a 1.0.0", "b 1.2.0")
	p.refuses(update("c"), api.ErrWant)
	p.refuses(override("c", ""), api.ErrWant)
}

// The document's ten examples of the whole, as far as they are commands.
func TestExamplesOfTheWhole(t *testing.T) {
	p := begun(t, published("a 1.0.0; needs b ^1.0.0", "b 1.0.0", "b 1.2.0", "b 2.0.0", "c 1.0.0; needs b ^2.0.0", "p 1.0.0; beside b ^1.0.0"))
	p.comesTo(add("a", "*", 0), 2, "a 1.0.0", "b 1.2.0")
	p.comesTo(add("c", "*", 0), 4, "a 1.0.0", "b 1.2.0", "c 1.0.0", "c/b 2.0.0")
	p.refuses(add("p", "*", 0), api.ErrUnsat)
	p.does(add("b", "^1.0.0", 0))
	p.does(add("p", "*", 0))
	p.has("p is added", "a 1.0.0", "b 1.2.0", "c 1.0.0", "c/b 2.0.0", "p 1.0.0")
	p.does(add("b", "*", 0))
	p.does(update("b"))
	p.has("b is updated beside p", "a 1.0.0", "b 1.2.0", "c 1.0.0", "c/b 2.0.0", "p 1.0.0")
	p.does(remove("p"))
	p.does(update("b"))
	fifth := []string{"a 1.0.0", "a/b 1.2.0", "b 2.0.0", "c 1.0.0"}
	p.has("b is updated without p", fifth...)
	before := p.s
	p.does(dedupe())
	if !same(p.s, before) {
		t.Errorf("a dedupe: %s, not %s", flat(p.s), flat(before))
	}
	p.does(override("b", "1.0.0"))
	p.has("b is overridden", "a 1.0.0", "b 1.0.0", "c 1.0.0")
	p.does(override("b", ""))
	p.does(install())
	p.has("an install", fifth...)
	p.refuses(add("z", "*", 0), api.ErrUnsat)
	p.refuses(remove("z"), api.ErrWant)
	p.refuses(add("B", "*", 0), api.ErrName)
	p.refuses(api.Step{Op: 11}, api.ErrOp)
}
