package project_test

import (
	"slices"
	"testing"

	"halyard/api"
	"halyard/project"
)

// chapter is the catalog of the chapter's examples.
func chapter() []string { return []string{"a 1.0.0; needs b ^1.0.0", "b 1.0.0", "b 1.2.0"} }

// has tells a fault unless a file has those bytes.
func (p *session) has(path, want string) {
	p.t.Helper()
	if got, e := p.d.Read(path); e != api.OK || got != want {
		p.t.Errorf("%s: %q, error %d, not %q", path, got, e, want)
	}
}

// answers does a step that must be answered so.
func (p *session) answers(x api.Step, want api.Answer) {
	p.t.Helper()
	if a := p.asks(x); a != want {
		p.t.Errorf("%s: %+v, not %+v", flat(x), a, want)
	}
}

// The chapter's examples: those of chapter 19, and what lies on the disk behind the first.
func TestExamples(t *testing.T) {
	p := begun(t, published(chapter()...))
	p.answers(add("a", "*", 0), api.Answer{Decisions: 2, Nodes: 3, Dirs: 2})
	if got := p.paths(); !slices.Equal(got, []string{"/lock", "/manifest", "/modules", "/modules/a", "/modules/a/package", "/modules/b", "/modules/b/package"}) {
		t.Error(got)
	}
	p.has("/modules/a/package", "package a 1.0.0\nneeds b >=1.0.0 <=1.999.999\n")
	p.has("/modules/b/package", "package b 1.2.0\n")
	p.refuses(add("a", ">1.0.0", 0), api.ErrUnsat)
	p.refuses(add("A", "*", 0), api.ErrName)
	p.refuses(add("a", "x", 0), api.ErrRange)
	p.refuses(add("a", "*", 3), api.ErrArg)
	p.refuses(remove("b"), api.ErrWant)
	p.refuses(update("c"), api.ErrWant)
	p.does(override("b", "1.0.0"))
	p.has("/modules/b/package", "package b 1.0.0\n")
	p.does(override("b", ""))
	p.has("/modules/b/package", "package b 1.0.0\n")
	p.does(update("b"))
	p.has("/modules/b/package", "package b 1.2.0\n")
	p.refuses(update("c"), api.ErrWant)
	p.refuses(override("c", ""), api.ErrWant)
}

// The chapter's examples: the power goes behind two raw writes of an update that changes something.
func TestExampleCut(t *testing.T) {
	p := begun(t, published(chapter()...))
	p.doesAll(add("a", "*", 0), override("b", "1.0.0"), override("b", ""))
	p.d.Cut(2)
	for _, x := range []api.Step{update("b"), update("b"), install(), add("A", "*", 0), {}} {
		if a := p.p.Do(x); a != (api.Answer{Code: api.ErrDown}) {
			t.Errorf("%s: %+v", flat(x), a)
		}
	}
	p.d.Up()
	p.opens()
	p.has("/modules/b/package", "package b 1.0.0\n")
	p.does(update("b"))
	p.has("/modules/b/package", "package b 1.2.0\n")
}

// whole is the catalog of the document's examples of the whole.
func whole() []string {
	return []string{"a 1.0.0; needs b ^1.0.0", "b 1.0.0", "b 1.2.0", "b 2.0.0", "c 1.0.0; needs b ^2.0.0", "p 1.0.0; beside b ^1.0.0"}
}

// The document's ten examples of the whole.
func TestExamplesOfTheWhole(t *testing.T) {
	p := begun(t, published(whole()...))
	p.answers(add("a", "*", 0), api.Answer{Decisions: 2, Nodes: 3, Dirs: 2})
	p.writes(add("c", "*", 0), "/lock", "/manifest", "/modules/c", "/modules/c/modules", "/modules/c/modules/b", "/modules/c/modules/b/package", "/modules/c/package")
	if len(p.now.Tree.Dirs) != 5 {
		t.Error(flat(p.now))
	}
	p.refuses(add("p", "*", 0), api.ErrUnsat)
	p.does(add("b", "^1.0.0", 0))
	p.does(add("p", "*", 0))
	p.has("/modules/p/package", "package p 1.0.0\nbeside b >=1.0.0 <=1.999.999\n")
	p.writes(add("b", "*", 0), "/manifest")
	p.quiet(update("b"))
	p.has("/modules/b/package", "package b 1.2.0\n")
	// Both versions of b are pinned, so that the greater one is the root's as soon as p is gone.
	p.writes(remove("p"), "/lock", "/manifest", "/modules/a/modules", "/modules/a/modules/b", "/modules/a/modules/b/package", "/modules/b/package", "/modules/c/modules", "/modules/c/modules/b", "/modules/c/modules/b/package", "/modules/p", "/modules/p/package")
	p.quiet(update("b"))
	p.has("/modules/b/package", "package b 2.0.0\n")
	p.has("/modules/a/modules/b/package", "package b 1.2.0\n")
	fifth := p.d.All()
	p.quiet(dedupe())
	p.does(override("b", "1.0.0"))
	if got := p.paths(); !slices.Equal(got, []string{"/lock", "/manifest", "/modules", "/modules/a", "/modules/a/package", "/modules/b", "/modules/b/package", "/modules/c", "/modules/c/package"}) {
		t.Error(got)
	}
	p.does(override("b", ""))
	p.does(install())
	if !slices.Equal(p.d.All(), fifth) {
		t.Error(flat(p.d.All()))
	}
	p.refuses(add("z", "*", 0), api.ErrUnsat)
	p.refuses(remove("z"), api.ErrWant)
	p.refuses(add("B", "*", 0), api.ErrName)
	p.refuses(api.Step{Op: 11}, api.ErrOp)
	p.cuts(remove("c"), 4)
	if p.d.Kind("/modules/c") != 0 {
		t.Error("c is there:", p.paths())
	}
	p.cuts(remove("a"), 2)
	if p.d.Kind("/modules/a") != 2 {
		t.Error("a is gone:", p.paths())
	}
}

// cuts lets the power go behind so many raw writes of a step, which are fewer than it asks for, and opens the project anew: it must be the one ahead of the step, or, behind three raw writes, the one behind it.
func (p *session) cuts(x api.Step, cut int) {
	p.t.Helper()
	next, _ := p.next(x)
	p.d.Clear()
	p.d.Cut(cut)
	if a := p.p.Do(x); a != (api.Answer{Code: api.ErrDown}) || len(p.d.Raws()) != cut {
		p.t.Fatalf("%s, cut behind %d: %+v, %s", flat(x), cut, a, words(p.d.Raws()))
	}
	if _, e := project.Open(p.d, p.c, p.l); e != api.ErrDown || len(p.d.Raws()) != cut {
		p.t.Fatalf("Open without power: error %d, %s", e, words(p.d.Raws()))
	}
	p.d.Up()
	if cut >= 3 {
		p.now = next
	}
	p.opens()
}
