package cli_test

import (
	"math"
	"slices"
	"testing"

	"halyard/api"
)

// opens is what an opening is answered that comes to the state that a session tells behind it.
func (p *session) opens() {
	p.t.Helper()
	a := p.does(open())
	s := p.s.State()
	if want := (api.Answer{Nodes: len(s.Graph.Nodes), Dirs: len(s.Tree.Dirs) - 1}); a != want {
		p.t.Fatalf("%+v, not %+v", a, want)
	}
	if got := p.s.Files(); !slices.Equal(got, filesOf(p.t, s)) {
		p.t.Fatalf("the files %s are not those of %s", flat(got), flat(s))
	}
}

// P22.2: a cut of 0: the power is off at once.
func TestCutNow(t *testing.T) {
	for _, x := range some() {
		p := built(t)
		p.quiet(cut(0))
		p.refuses(x, api.ErrDown)
		p.refuses(cut(0), api.ErrDown)
		p.opens()
		p.asks(x)
	}
}

// P22.2: a cut of a negative number: refused, and what was to come stays so.
func TestCutNegative(t *testing.T) {
	negative := []int{-1, -2, -100, -1 << 32, math.MinInt}
	p := built(t)
	for _, n := range negative {
		p.refuses(cut(n), api.ErrArg)
	}
	p.does(remove("a"))
	for _, n := range negative {
		p.doesAll(cut(2))
		p.refuses(cut(n), api.ErrArg)
		p.answers(remove("c"), api.Answer{Code: api.ErrDown})
		if len(p.s.Raws()) != 2 {
			t.Error(flat(p.s.Raws()))
		}
		p.refuses(cut(n), api.ErrDown)
		p.opens()
	}
}

// P22.2: a cut of more raw writes than a command has, or of just as many: it is done; what is left of the cut is for those behind it.
func TestCutMore(t *testing.T) {
	for _, x := range some() {
		p := built(t)
		q := p.clone()
		want := p.asks(x)
		count := len(p.s.Raws())
		for _, n := range []int{count + 1, count + 2, count + 5, 1 << 20, 1 << 40, math.MaxInt} {
			q := q.clone()
			q.quiet(cut(n))
			q.answers(x, want)
			if q.m.left != n-count {
				t.Fatal(q.m.left)
			}
			q.asks(override("zz", "1.0.0"))
			q.asks(remove("c"))
			q.opens()
		}
		if count > 0 {
			q.quiet(cut(count))
			q.answers(x, want)
			q.refuses(x, api.ErrDown)
			q.opens()
			if !same(q.s.State(), p.s.State()) {
				t.Errorf("%s: %s", flat(x), flat(q.s.State()))
			}
		}
	}
}

// P22.2: a second cut ahead of the first one's end takes its place, be it nearer or farther, or none is left of the first but one raw write.
func TestCutAgain(t *testing.T) {
	for _, first := range []int{1, 2, 7, 100, math.MaxInt} {
		for _, second := range []int{0, 1, 2, 3, 4, 6, 1 << 30, math.MaxInt} {
			p := built(t)
			p.doesAll(cut(first), cut(second))
			p.asks(remove("a"))
			if got := len(p.s.Raws()); got != min(second, got) || second < 5 && got != second {
				t.Errorf("%d, then %d: %s", first, second, flat(p.s.Raws()))
			}
			p.opens()
			p.does(install())
		}
	}
	// The first one is met half by a command that is done.
	p := built(t)
	p.does(override("zz", "*"))
	count := len(p.s.Raws())
	p.doesAll(cut(count+1), override("zz", "1.0.0"), cut(count), override("zz", "2.0.0"))
	p.refuses(override("zz", "3.0.0"), api.ErrDown)
}

// P22.2: a cut that is refused since the power is off changes nothing: it does not bring it back, nor is it met later.
func TestCutDown(t *testing.T) {
	p := built(t)
	p.does(cut(0))
	for _, n := range []int{0, 1, 3, -1, math.MinInt, math.MaxInt} {
		p.refuses(cut(n), api.ErrDown)
		p.refuses(remove("a"), api.ErrDown)
	}
	p.opens()
	p.does(remove("a"))
}

// P22.2: an opening while the power is on: nothing is changed and nothing written, and no cut is to come any more.
func TestOpenOn(t *testing.T) {
	p := begun(t, chapter()...)
	p.answers(open(), api.Answer{Nodes: 1})
	for _, x := range []api.Step{add("a", "*", 0), override("b", "1.0.0"), prune(), install(), remove("a")} {
		p.does(x)
		for range 2 {
			files, state := p.s.Files(), p.s.State()
			p.opens()
			if len(p.s.Raws()) != 0 || !slices.Equal(p.s.Files(), files) || !same(p.s.State(), state) {
				t.Fatal(flat(p.s.Raws()))
			}
			p.does(cut(1))
		}
		p.opens()
	}
}

// P22.2: an opening behind a cut that met nothing, be the power off or not: as it was, and no cut is to come any more.
func TestOpenMetNothing(t *testing.T) {
	for _, n := range []int{0, 1, 3, 100, math.MaxInt} {
		for _, ahead := range [][]api.Step{nil, {dedupe()}, {add("A", "*", 0)}, {publish("z 1.0.0")}, {{Op: 0}}} {
			p := built(t)
			files := p.s.Files()
			p.does(cut(n))
			for _, x := range ahead {
				p.asks(x)
			}
			p.opens()
			if len(p.s.Raws()) != 0 || !slices.Equal(p.s.Files(), files) {
				t.Errorf("cut %d: %s", n, flat(p.s.Raws()))
			}
			p.doesAll(remove("a"), install(), remove("c"), install(), open())
		}
	}
}

// whereverItGoes lets the power go behind every number of raw writes of a step that is asked of such a session, and opens the project anew: its files must be those ahead of the step, or, behind three raw writes, those behind it.
func whereverItGoes(p *session, x api.Step) int {
	p.t.Helper()
	behind := p.clone()
	want := behind.asks(x)
	count := len(behind.s.Raws())
	for n := range count + 2 {
		q := p.clone()
		q.does(cut(n))
		a := q.asks(x)
		if isDown := n == 0 || n < count; isDown != (a == api.Answer{Code: api.ErrDown}) || !isDown && a != want || len(q.s.Raws()) != min(n, count) {
			p.t.Fatalf("%s, cut behind %d: %+v, %s", flat(x), n, a, flat(q.s.Raws()))
		}
		if n == 0 || n < count {
			q.refuses(x, api.ErrDown)
		}
		q.opens()
		as := p
		if min(n, count) >= 3 {
			as = behind
		}
		if !slices.Equal(q.s.Files(), as.s.Files()) || !same(q.s.State(), as.s.State()) {
			p.t.Fatalf("%s, cut behind %d: %s", flat(x), n, flat(q.s.Files()))
		}
		// Once more, and nothing is left to do.
		q.opens()
		if len(q.s.Raws()) != 0 {
			p.t.Fatalf("%s, cut behind %d: %s", flat(x), n, flat(q.s.Raws()))
		}
		q.asks(x)
	}
	return count
}

// P22.5: the power goes wherever it may in each kind of command: behind the opening the files are those ahead of it, or those behind it.
func TestWhereverItGoes(t *testing.T) {
	writing := 0
	for _, x := range some() {
		if whereverItGoes(built(t), x) > 0 {
			writing++
		}
	}
	if writing < 6 {
		t.Error("too few that write:", writing)
	}
	p := begun(t, whole()...)
	for _, x := range []api.Step{add("a", "*", 0), add("c", "*", 0), add("b", "^1.0.0", 0), add("p", "*", 0), add("b", "*", 0), remove("p"), override("b", "1.0.0"), override("b", ""), install(), prune(), remove("a"), remove("c"), remove("b"), install()} {
		whereverItGoes(p, x)
		p.does(x)
	}
	if l := p.s.Files(); len(l) != 0 {
		t.Error(flat(l))
	}
}

// P22.5: drawn steps, and the power goes anywhere in them.
func TestWhereverItGoesDrawn(t *testing.T) {
	s := source(1)
	count := 0
	for range 40 {
		p := within(t, s.someLimits(), s.somePacks()...)
		for range 6 {
			x := s.someCommand()
			count += whereverItGoes(p, x)
			p.asks(x)
		}
	}
	if count < 600 {
		t.Error("too few raw writes:", count)
	}
}
