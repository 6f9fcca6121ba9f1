package cli_test

import (
	"slices"
	"testing"

	"halyard/api"
)

// The chapter's examples.
func TestExamples(t *testing.T) {
	p := begun(t)
	p.answers(publish("a 1.0.0"), api.Answer{})
	p.refuses(publish("a 1.0.0"), api.ErrThere)
	p.refuses(api.Step{Op: api.StepPublish, Pack: "x"}, api.ErrLine)
	for _, x := range []api.Step{add("a", "*", 0), install()} {
		p.answers(x, api.Answer{Decisions: 1, Nodes: 2, Dirs: 1})
	}
	p.refuses(api.Step{Op: 0}, api.ErrOp)
	p.refuses(api.Step{Op: 11}, api.ErrOp)
	p.answers(cut(0), api.Answer{})
	p.refuses(remove("a"), api.ErrDown)
	p.refuses(cut(1), api.ErrDown)
	p.answers(open(), api.Answer{Nodes: 2, Dirs: 1})
	p.answers(remove("a"), api.Answer{Nodes: 1})
}

// The document's ten examples of the whole.
func TestExamplesOfTheWhole(t *testing.T) {
	p := begun(t, whole()...)
	p.answers(add("a", "*", 0), api.Answer{Decisions: 2, Nodes: 3, Dirs: 2})
	p.has("/modules", "/modules/a", "/modules/a/package", "/modules/b", "/modules/b/package")
	if got := p.reads("/modules/b/package"); got != "package b 1.2.0\n" {
		t.Error(got)
	}
	p.does(add("c", "*", 0))
	p.wrote("/lock", "/manifest", "/modules/c", "/modules/c/modules", "/modules/c/modules/b", "/modules/c/modules/b/package", "/modules/c/package")
	p.refuses(add("p", "*", 0), api.ErrUnsat)
	p.doesAll(add("b", "^1.0.0", 0), add("p", "*", 0))
	if got := p.reads("/modules/p/package") + p.reads("/modules/b/package"); got != "package p 1.0.0\nbeside b >=1.0.0 <=1.999.999\npackage b 1.2.0\n" {
		t.Error(got)
	}
	p.doesAll(add("b", "*", 0), update("b"))
	if got := p.reads("/modules/b/package"); got != "package b 1.2.0\n" {
		t.Error(got)
	}
	p.doesAll(remove("p"), update("b"))
	p.has("/modules", "/modules/a", "/modules/a/modules", "/modules/a/modules/b", "/modules/a/modules/b/package", "/modules/a/package", "/modules/b", "/modules/b/package", "/modules/c", "/modules/c/package")
	if got := p.reads("/modules/b/package") + p.reads("/modules/a/modules/b/package"); got != "package b 2.0.0\npackage b 1.2.0\n" {
		t.Error(got)
	}
	fifth := p.s.Files()
	p.quiet(dedupe())
	if a := p.does(override("b", "1.0.0")); a.Dirs != 3 {
		t.Error(flat(a))
	}
	p.has("/modules", "/modules/a", "/modules/a/package", "/modules/b", "/modules/b/package", "/modules/c", "/modules/c/package")
	p.doesAll(override("b", ""), install())
	if !slices.Equal(p.s.Files(), fifth) {
		t.Error(flat(p.s.Files()))
	}
	p.refuses(add("z", "*", 0), api.ErrUnsat)
	p.refuses(remove("z"), api.ErrWant)
	p.refuses(add("B", "*", 0), api.ErrName)
	p.refuses(api.Step{Op: 11}, api.ErrOp)
	p.does(cut(4))
	p.answers(remove("c"), api.Answer{Code: api.ErrDown})
	p.does(open())
	p.has("/modules", "/modules/a", "/modules/a/modules", "/modules/a/modules/b", "/modules/a/modules/b/package", "/modules/a/package", "/modules/b", "/modules/b/package")
	p.does(cut(2))
	p.answers(remove("a"), api.Answer{Code: api.ErrDown})
	p.does(open())
	p.has("/modules", "/modules/a", "/modules/a/modules", "/modules/a/modules/b", "/modules/a/modules/b/package", "/modules/a/package", "/modules/b", "/modules/b/package")
}

// wrote tells a fault unless the last step wrote just to those paths, but for the journal's.
func (p *session) wrote(want ...string) {
	p.t.Helper()
	var got []string
	for _, r := range p.s.Raws() {
		if !isJournal(r.Path) {
			got = append(got, r.Path)
		}
	}
	slices.Sort(got)
	if !slices.Equal(slices.Compact(got), want) {
		p.t.Errorf("raw writes of %s, not of %s", got, want)
	}
}
