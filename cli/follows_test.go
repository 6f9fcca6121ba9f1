package cli_test

import (
	"slices"
	"strings"
	"testing"

	"halyard/api"
	"halyard/graph"
	"halyard/walkup"
)

// isJournal tells whether a path is the journal's, or below it.
func isJournal(path string) bool { return path == "/journal" || strings.HasPrefix(path, "/journal/") }

// walks goes through sessions, each from its beginning on by some steps, of which some publish packages; visit is told each step, and asks it or not.
func (s *source) walks(t *testing.T, count, steps int, cuts bool, visit func(p *session, x api.Step)) {
	t.Helper()
	for range count {
		packages := s.somePacks()
		p := within(t, s.someLimits(), packages[:s.below(len(packages))]...)
		for range steps {
			visit(p, s.someStep(cuts, packages))
		}
	}
}

// P22.2, P22.3, P22.4: drawn rows of raw steps without cuts: each answer is the model's, and so is all that is told behind it.
func TestDrawn(t *testing.T) {
	s := source(3)
	codes := map[api.Errno]int{}
	s.walks(t, 500, 25, false, func(p *session, x api.Step) { codes[p.asks(x).Code]++ })
	for _, want := range []api.Errno{api.OK, api.ErrArg, api.ErrThere, api.ErrVersion, api.ErrRange, api.ErrLine, api.ErrName, api.ErrText, api.ErrUnsat, api.ErrBudget, api.ErrTooMany, api.ErrTooLong, api.ErrTooDeep, api.ErrWant, api.ErrOp} {
		if codes[want] < 5 {
			t.Errorf("error %d came too seldom: %v", want, codes)
		}
	}
	if codes[api.ErrDown] != 0 {
		t.Error(codes)
	}
}

// P22.2, P22.3, P22.5: drawn rows of raw steps with cuts and openings: each answer is that of the model, whose power goes, too; behind an opening the files are those ahead of the step in which it went, or those behind it.
func TestDrawnWithCuts(t *testing.T) {
	s := source(4)
	codes, ahead, behind, silent := map[api.Errno]int{}, 0, 0, 0
	var from, to []api.File // of the command in which the power went
	s.walks(t, 500, 30, true, func(p *session, x api.Step) {
		was := p.m.lost
		before := p.s.Files()
		codes[p.asks(x).Code]++
		switch {
		case !was && p.m.lost:
			from, to = before, filesOf(t, p.m.next)
		case x.Op == api.StepOpen && was:
			got := p.s.Files()
			isAhead, isBehind := slices.Equal(got, from), slices.Equal(got, to)
			if !isAhead && !isBehind {
				t.Fatalf("%s, neither %s nor %s", flat(got), flat(from), flat(to))
			}
			if len(p.s.Raws()) == 0 {
				silent++
			}
			if isAhead {
				ahead++
			} else {
				behind++
			}
		}
		if x.Op == api.StepOpen && !slices.Equal(p.s.Files(), filesOf(t, p.s.State())) {
			t.Fatalf("the files %s are not those of the state", flat(p.s.Files()))
		}
	})
	if codes[api.OK] < 1000 || codes[api.ErrDown] < 500 || ahead < 100 || behind < 50 || silent < 50 {
		t.Error("too few of a kind:", codes, ahead, behind, silent)
	}
}

// The document's promises of the whole, W1: behind each command that is done the graph is a solution, and by lookups along its edges each directory is its node's. W6: no raw write is of a path, but the journal's, at which there is the same ahead of it and behind it. W7: what is refused writes nothing.
func TestTheWhole(t *testing.T) {
	s := source(5)
	done := 0
	s.walks(t, 120, 25, false, func(p *session, x api.Step) {
		before := p.s.Files()
		a := p.asks(x)
		after, now := p.s.Files(), p.s.State()
		for _, r := range p.s.Raws() {
			is := func(f api.File) bool { return f.Path == r.Path }
			i, j := slices.IndexFunc(before, is), slices.IndexFunc(after, is)
			if !isJournal(r.Path) && (i < 0 && j < 0 || i >= 0 && j >= 0 && before[i] == after[j]) {
				t.Fatalf("%s: a raw write of %s", flat(x), r.Path)
			}
		}
		if a.Code != api.OK {
			if len(p.s.Raws()) != 0 || !slices.Equal(before, after) {
				t.Fatalf("%s: refused, and written", flat(x))
			}
			return
		}
		if x.Op < api.StepInstall {
			return
		}
		done++
		if e := graph.Check(now.Graph, p.m.c, now.Manifest, !now.Pruned); e != api.OK {
			t.Fatalf("%s: error %d: %s is no solution", flat(x), e, flat(now.Graph))
		}
		nodes, e := walkup.Map(now.Tree, now.Graph)
		if e != api.OK || nodes[0] != 0 {
			t.Fatalf("%s: error %d, %v", flat(x), e, nodes)
		}
		for i, d := range now.Tree.Dirs {
			if n := now.Graph.Nodes[nodes[i]]; d.Node != nodes[i] || d.Pack.Name != n.Name || d.Pack.Version != n.Version {
				t.Fatalf("%s: %s is not the node %s", flat(x), flat(d), flat(n))
			}
		}
	})
	if done < 1000 {
		t.Error("too few:", done)
	}
}
