package project_test

import (
	"fmt"
	"math"
	"slices"
	"strings"
	"testing"

	"halyard/api"
	"halyard/image"
	"halyard/project"
)

// some is steps of each kind, such as change the project that built gives, such as do not, and such as are refused.
func some() []api.Step {
	return []api.Step{
		install(), add("d", "*", 0), add("f", "1.0.0", 1), remove("a"), update("b"), update(""), dedupe(), prune(), override("b", "1.0.0"), override("d", ""),
		{}, {Op: api.StepPublish, Pack: "package z 1.0.0\n"}, {Op: api.StepCut, N: 3}, {Op: api.StepOpen}, add("A", "*", 0), add("a", "x", 0), add("a", "*", 3), add("zz", "*", 0), remove("zz"),
	}
}

// P20.2: the power is off: refused, whatever the step is; and so is each Do behind it, also when the power is there again.
func TestDown(t *testing.T) {
	for _, first := range some() {
		p := built(t)
		p.d.Cut(0)
		p.refuses(first, api.ErrDown)
		for _, x := range some() {
			p.refuses(x, api.ErrDown)
		}
		p.d.Up()
		for _, x := range some() {
			p.refuses(x, api.ErrDown)
		}
		p.opens()
		p.does(install())
	}
}

// P20.2: the power went and came back between two Dos: nobody asked meanwhile, so nothing is lost.
func TestDownBetween(t *testing.T) {
	p := built(t)
	for _, x := range some() {
		p.d.Cut(0)
		p.p.State()
		p.d.Up()
		p.asks(x)
	}
}

// P20.2: the power goes in a Do: refused, and so is each Do behind it, also when the power is there again, be a Do asked meanwhile or not; nothing more is written, and the state is the one ahead.
func TestLost(t *testing.T) {
	count := 0
	for _, first := range some() {
		p := built(t)
		next, _ := p.next(first)
		raws := modelRaws(p.d.All(), filesOf(t, next))
		for cut := range len(raws) {
			for _, meanwhile := range []bool{false, true} {
				q := p.clone()
				q.d.Cut(cut)
				if a := q.p.Do(first); a != (api.Answer{Code: api.ErrDown}) {
					t.Fatalf("%s, cut behind %d: %+v", flat(first), cut, a)
				}
				if got := words(q.d.Raws()); !slices.Equal(got, raws[:cut]) {
					t.Fatalf("%s, cut behind %d: %s, not %s", flat(first), cut, got, raws[:cut])
				}
				left := q.d.All()
				if meanwhile {
					q.refusesAll(append(some(), first), left)
				}
				q.d.Up()
				q.refusesAll(append(some(), first), left)
				// A cut and a power more bring it back no more.
				q.d.Cut(0)
				q.d.Up()
				q.refusesAll(append(some(), first), left)
				count++
			}
		}
	}
	if count < 80 {
		t.Error("too few:", count)
	}
}

// refusesAll tells a fault unless each of these steps is refused since the power went, and the files stay as they were left.
func (p *session) refusesAll(l []api.Step, left []api.File) {
	p.t.Helper()
	for _, x := range l {
		p.refusesLeaving(x, api.ErrDown, left)
	}
}

// P20.2: the power goes with the last raw write of a Do, so that all was done: the Do answers OK, and is lost just if a Do is asked meanwhile.
func TestLastWrite(t *testing.T) {
	for _, meanwhile := range []bool{false, true} {
		p := built(t)
		for _, x := range []api.Step{install(), add("d", "*", 0), remove("a"), update(""), prune(), override("b", "1.0.0")} {
			next, _ := p.next(x)
			cut := len(modelRaws(p.d.All(), filesOf(t, next)))
			if cut == 0 {
				continue
			}
			p.d.Cut(cut)
			p.does(x)
			if !p.d.Down() {
				t.Fatal("the power is on")
			}
			if meanwhile {
				p.refuses(install(), api.ErrDown)
			}
			p.d.Up()
			if meanwhile {
				p.refuses(install(), api.ErrDown)
				p.opens()
			}
		}
	}
}

// names is so many names that rise, with that letter ahead.
func names(letter string, count int) []string {
	var l []string
	for i := range count {
		l = append(l, fmt.Sprintf("%s%02d", letter, i))
	}
	return l
}

// P20.2, P20.5: each kind of refusal that edit has for a step: its number goes up, nothing is written, and the project goes on.
func TestRefused(t *testing.T) {
	p := built(t)
	for _, op := range []int{0, api.StepPublish, api.StepCut, api.StepOpen, 11, -1, math.MinInt, math.MaxInt} {
		p.refuses(api.Step{Op: op, Name: "a", Range: "*"}, api.ErrOp)
	}
	for _, name := range []string{"A", "1a", "a b", "a/b", "..", "\xff", "abcdefghijklmnopq", strings.Repeat("a", 1<<16)} {
		for _, x := range []api.Step{add(name, "*", 0), remove(name), update(name), override(name, "*"), override(name, "")} {
			p.refuses(x, api.ErrName)
		}
	}
	for _, x := range []api.Step{add("", "*", 0), remove(""), override("", "*"), override("", "")} {
		p.refuses(x, api.ErrName)
	}
	for _, text := range []string{"x", " ", "^*", "1.0", ">1.0.0 <1.0.1", "<0.0.0", strings.Repeat("*||", 1<<12)} {
		p.refuses(add("a", text, 0), api.ErrRange)
		p.refuses(override("a", text), api.ErrRange)
	}
	p.refuses(add("a", "", 0), api.ErrRange)
	for _, kind := range []int{-1, 3, math.MinInt, math.MaxInt} {
		p.refuses(add("a", "*", kind), api.ErrArg)
	}
	for _, x := range []api.Step{remove("zz"), remove("b"), update("zz"), override("zz", ""), override("a", "")} {
		p.refuses(x, api.ErrWant)
	}
	for _, x := range []api.Step{add("zz", "*", 0), add("a", ">1.0.0", 0), override("b", ">=3.0.0"), add("zz", "*", 1)} {
		p.refuses(x, api.ErrUnsat)
	}
	p.does(install())
	p.does(remove("a"))
}

// P20.2, P20.5: lists that are full.
func TestFull(t *testing.T) {
	p := begun(t, published())
	for i, name := range names("n", api.MaxList) {
		p.does(add(name, "*", 2))
		p.does(override(name, "1.0.0"))
		if got := len(p.now.Manifest.Optional); got != i+1 {
			t.Fatal(got)
		}
	}
	p.refuses(add("more", "*", 2), api.ErrFull)
	p.refuses(override("more", "*"), api.ErrFull)
	p.does(remove("n03"))
	p.does(add("more", "*", 2))
}

// P20.5: what the search and the tree refuse: too many decisions, nodes, directories, too long a path.
func TestRefusedByLimits(t *testing.T) {
	c := published("a 1.0.0; needs b ^1.0.0", "b 1.0.0", "b 2.0.0", "c 1.0.0; needs b ^2.0.0")
	for want, l := range map[api.Errno]api.Limits{
		api.ErrBudget:  {Decisions: 3, Nodes: 20, Dirs: 20, Path: 200},
		api.ErrTooMany: {Decisions: 100, Nodes: 4, Dirs: 20, Path: 200},
		api.ErrTooDeep: {Decisions: 100, Nodes: 20, Dirs: 3, Path: 200},
		api.ErrTooLong: {Decisions: 100, Nodes: 20, Dirs: 20, Path: len("/modules/c/modules/b") - 1},
	} {
		p := within(t, image.Empty(), c, l).doesAll(add("a", "*", 0))
		p.refuses(add("c", "*", 0), want)
		p.refuses(add("c", "*", 1), want)
		p.quiet(install())
		p.does(remove("a"))
	}
}

// P20.5: a step that is refused brings a cut that is to come no nearer.
func TestRefusedBeforeCut(t *testing.T) {
	p := built(t)
	p.d.Cut(1)
	for _, x := range some() {
		if _, a := p.next(x); a.Code != api.OK {
			p.refuses(x, a.Code)
		}
	}
	if p.d.Down() {
		t.Error("the power went")
	}
	p.d.Up()
	p.does(remove("a"))
}

// P20.4: a Do that comes to the same state writes nothing.
func TestSameState(t *testing.T) {
	p := begun(t, published(chapter()...))
	for _, x := range []api.Step{install(), update(""), dedupe()} {
		p.quiet(x)
	}
	p.does(add("a", "*", 0))
	for _, x := range []api.Step{install(), update(""), update("a"), update("b"), dedupe(), add("a", "*", 0), add("a", ">=0.0.0", 0), add("a", "<=1.0.0 || >=1.0.0", 0)} {
		p.quiet(x)
	}
	p.does(override("b", "<=1.2.0"))
	p.quiet(override("b", "<=1.2.0"))
	p.does(prune())
	for _, x := range []api.Step{prune(), dedupe(), update(""), override("b", "<1.2.1"), add("a", "*", 0)} {
		p.quiet(x)
	}
	// Back to the empty state, whose files are none.
	p.doesAll(install(), override("b", ""), remove("a"))
	if got := p.d.All(); len(got) != 0 {
		t.Error(flat(got))
	}
	p.quiet(install())
}

// P20.4: just what changes is written.
func TestWrites(t *testing.T) {
	p := built(t)
	p.does(install())
	p.writes(add("a", "1.0.0", 0), "/manifest")
	p.writes(add("f", "*", 0), "/manifest")
	p.writes(add("f", "*", 1), "/manifest")
	p.writes(override("zz", "*"), "/manifest")
	p.writes(prune(), "/lock", "/modules/f", "/modules/f/package", "/pruned")
	p.writes(install(), "/lock", "/modules/f", "/modules/f/package", "/pruned")
	p.writes(override("b", "1.0.0"), "/lock", "/manifest", "/modules/b/package", "/modules/c/modules", "/modules/c/modules/b", "/modules/c/modules/b/package")
}

// P20.1, P20.2: the catalog is kept, not what was in it at the Open: packages that are put in between two Dos are chosen.
func TestPublished(t *testing.T) {
	p := begun(t, published())
	p.refuses(add("a", "*", 0), api.ErrUnsat)
	publish(p.c, "a 1.0.0; needs b *")
	p.refuses(add("a", "*", 0), api.ErrUnsat)
	publish(p.c, "b 1.0.0")
	p.does(add("a", "*", 0))
	publish(p.c, "b 1.1.0")
	p.quiet(dedupe())
	p.has("/modules/b/package", "package b 1.0.0\n")
	p.writes(update("b"), "/lock", "/modules/b/package")
	p.has("/modules/b/package", "package b 1.1.0\n")
	publish(p.c, "b 2.0.0; likes c *")
	p.does(install())
	p.has("/modules/b/package", "package b 2.0.0\nlikes c *\n")
	publish(p.c, "c 1.0.0")
	p.writes(install(), "/lock", "/modules/c", "/modules/c/package")
}

// P20.2: State is the state that the project has, at each time.
func TestState(t *testing.T) {
	p := begun(t, published(chapter()...))
	if got := p.p.State(); !same(got, image.Empty()) {
		t.Error(flat(got))
	}
	p.does(add("a", "*", 0))
	first := p.p.State()
	p.does(override("b", "1.0.0"))
	if second := p.p.State(); same(first, second) || len(second.Manifest.Overrides) != 1 || len(first.Manifest.Overrides) != 0 {
		t.Error(flat(first), flat(second))
	}
	p.d.Cut(4)
	p.p.Do(override("b", ""))
	if got := p.p.State(); !same(got, p.now) {
		t.Error(flat(got))
	}
	p.d.Up()
	if got := p.p.State(); !same(got, p.now) {
		t.Error(flat(got))
	}
	q, e := project.Open(p.d, p.c, p.l)
	if e != api.OK || len(q.State().Manifest.Overrides) != 0 {
		t.Error(e)
	}
	if got := p.p.State(); !same(got, p.now) {
		t.Error("a lost project follows another one:", flat(got))
	}
}
