package cli_test

import (
	"math"
	"testing"

	"halyard/api"
	"halyard/cli"
	"halyard/image"
)

// limit is the number at one of the four places of limits, and what it may be at most.
func limit(l *api.Limits, i int) (*int, int) {
	return []*int{&l.Decisions, &l.Nodes, &l.Dirs, &l.Path}[i], []int{4096, 128, 256, 1024}[i]
}

// P22.1: limits that may not be: each of the four one below and one above what it may be, and far outside, be the others at their ends or between; no session beside the error.
func TestNewNoLimits(t *testing.T) {
	refused := func(l api.Limits) {
		t.Helper()
		if s, e := cli.New(l); s != nil || e != api.ErrArg {
			t.Errorf("%+v: %v, error %d", l, s, e)
		}
	}
	refused(api.Limits{})
	refused(api.Limits{Decisions: 4097, Nodes: 129, Dirs: 257, Path: 1025})
	for i := range 4 {
		for _, l := range []api.Limits{least, example, greatest} {
			at, most := limit(&l, i)
			for _, n := range []int{0, most + 1, -1, -most, most + 2, 1 << 32, 1<<32 + 1, math.MinInt, math.MaxInt} {
				*at = n
				refused(l)
			}
		}
	}
}

// P22.1: limits at both ends of what may be, each of the four: a session.
func TestNewEnds(t *testing.T) {
	for i := range 4 {
		for _, l := range []api.Limits{least, example, greatest} {
			at, most := limit(&l, i)
			for _, n := range []int{1, 2, most - 1, most} {
				*at = n
				p := within(t, l, "a 1.0.0", "b 1.0.0; needs a *")
				for _, x := range []api.Step{install(), add("a", "*", 0), add("b", "*", 0), remove("a"), open()} {
					p.asks(x)
				}
			}
		}
	}
}

// P22.1: an empty catalog, an empty disk, the empty project, the power on and no cut to come; whatever was done to another session.
func TestNewEmpty(t *testing.T) {
	for range 2 {
		p := begun(t)
		if l := p.s.Files(); len(l) != 0 {
			t.Error(flat(l))
		}
		if l := p.s.Raws(); len(l) != 0 {
			t.Error(flat(l))
		}
		if s := p.s.State(); !same(s, image.Empty()) {
			t.Error(flat(s))
		}
		p.refuses(add("a", "*", 0), api.ErrUnsat)
		p.answers(install(), api.Answer{Nodes: 1})
		p.answers(open(), api.Answer{Nodes: 1})
		p.does(publish("a 1.0.0"))
		p.answers(add("a", "*", 0), api.Answer{Decisions: 1, Nodes: 2, Dirs: 1})
		p.does(cut(0))
	}
}

// P22.1, P22.2: a session keeps the limits that it was made with: what is beyond them is refused, also behind an opening.
func TestNewLimits(t *testing.T) {
	for _, l := range []api.Limits{{Decisions: 3, Nodes: 20, Dirs: 20, Path: 200}, {Decisions: 100, Nodes: 4, Dirs: 20, Path: 200}, {Decisions: 100, Nodes: 20, Dirs: 3, Path: 200}, {Decisions: 100, Nodes: 20, Dirs: 20, Path: len("/modules/c/modules/b") - 1}} {
		want := api.ErrTooLong
		switch {
		case l.Decisions == 3:
			want = api.ErrBudget
		case l.Nodes == 4:
			want = api.ErrTooMany
		case l.Dirs == 3:
			want = api.ErrTooDeep
		}
		p := within(t, l, whole()...).doesAll(add("a", "*", 0))
		p.refuses(add("c", "*", 0), want)
		p.does(open())
		p.refuses(add("c", "*", 0), want)
		p.doesAll(cut(0), open())
		p.refuses(add("c", "*", 0), want)
		p.does(remove("a"))
	}
}
