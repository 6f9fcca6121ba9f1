package cli_test

import (
	"fmt"
	"math"
	"strings"
	"testing"

	"halyard/api"
)

// text is a publish of a text as it stands.
func text(s string) api.Step { return api.Step{Op: api.StepPublish, Pack: s} }

// unread is texts that are no package's, and the error of pack.Parse of each.
func unread() map[string]api.Errno {
	return map[string]api.Errno{
		"":                                    api.ErrLine,
		"x":                                   api.ErrLine,
		"\n":                                  api.ErrLine,
		"package a 1.0.0":                     api.ErrLine,
		"package a\n":                         api.ErrLine,
		"packet a 1.0.0\n":                    api.ErrLine,
		"package a 1.0.0 \n":                  api.ErrLine,
		"package a 1.0.0\x00\n":               api.ErrLine,
		"package a 1.0.0\n\n":                 api.ErrLine,
		"package a 1.0.0\nneeds b\n":          api.ErrLine,
		"package a 1.0.0\nlikes c *\nneeds b": api.ErrLine,
		"package A 1.0.0\n":                   api.ErrName,
		"package abcdefghijklmnopq 1.0.0\n":   api.ErrName,
		"package a 1.0.0\nneeds B *\n":        api.ErrName,
		"package a 1.0.0\nneeds b *\nneeds b *\n": api.ErrName,
		"package a 1.0\n":                         api.ErrVersion,
		"package a 1.0.1000\n":                    api.ErrVersion,
		"package a 01.0.0\n":                      api.ErrVersion,
		"package a 1.0.0\nneeds b x\n":            api.ErrRange,
		"package a 1.0.0\nneeds b <0.0.0\n":       api.ErrRange,
		"package a 1.0.0\nneeds b *\nlikes b *\n": api.ErrPack,
		"package a 1.0.0\n" + many(17):            api.ErrPack,
		strings.Repeat("a", 4097):                 api.ErrText,
		strings.Repeat("package a 1.0.0\n", 300):  api.ErrText,
	}
}

// many is so many lines of what a package needs.
func many(count int) string {
	var out strings.Builder
	for i := range count {
		fmt.Fprintf(&out, "needs n%02d *\n", i)
	}
	return out.String()
}

// P22.2: a publish: the package is in the catalog from then on, and nothing else is changed.
func TestPublish(t *testing.T) {
	p := begun(t)
	for _, x := range []api.Step{publish("a 1.0.0"), publish("a 1.0.1"), publish("b 1.0.0; needs a ^1.0.0 || 3.0.0; beside c *; likes d <=2.0.0"), text("package abcdefghijklmnop 999.999.999\n" + many(16)), publish("d 0.0.0")} {
		p.quiet(x)
	}
	p.answers(add("a", "*", 0), api.Answer{Decisions: 1, Nodes: 2, Dirs: 1})
	p.refuses(add("b", "*", 0), api.ErrUnsat)
	p.quiet(publish("c 5.0.0"))
	p.doesAll(add("c", "*", 0), add("b", "*", 0))
	p.quiet(publish("a 1.1.0"))
	p.quiet(dedupe())
	p.does(update("a"))
	p.wrote("/lock", "/modules/a/package")
}

// P22.2: a publish of what can't be read: the error of pack.Parse, and the catalog has nothing more.
func TestPublishUnread(t *testing.T) {
	p := begun(t)
	for s, want := range unread() {
		p.refuses(text(s), want)
		p.refuses(add("a", "*", 0), api.ErrUnsat)
	}
	p.does(publish("a 1.0.0"))
	p.does(add("a", "*", 0))
}

// P22.2: a publish of a name and a version that are there already, be all else the same or another, written so or so: the one that was there stays.
func TestPublishThere(t *testing.T) {
	p := begun(t, "a 1.0.0; needs b ^1.0.0", "b 1.0.0")
	for range 2 {
		for _, x := range []api.Step{publish("a 1.0.0; needs b ^1.0.0"), publish("a 1.0.0; needs b >=1.0.0 <2.0.0"), publish("a 1.0.0"), publish("a 1.0.0; needs z *"), publish("a 1.0.0; likes b *")} {
			p.refuses(x, api.ErrThere)
		}
		p.asks(add("a", "*", 0))
		p.has("/modules", "/modules/a", "/modules/a/package", "/modules/b", "/modules/b/package")
		p.refuses(text("package a 1.0.0\nneeds a\n"), api.ErrLine)
		p.refuses(text("package a 1.0.0\nneeds a x\n"), api.ErrRange)
	}
	p.doesAll(publish("a 1.0.1"), publish("a 0.0.0"), publish("a- 1.0.0"))
}

// P22.2: a publish of the 129th: as many as may be; what can't be read, or is there, is told ahead of that.
func TestPublishFull(t *testing.T) {
	p := begun(t)
	for i := range 128 {
		p.does(publish(fmt.Sprintf("a %d.0.0", i)))
	}
	for range 2 {
		p.refuses(publish("a 128.0.0"), api.ErrFull)
		p.refuses(publish("b 1.0.0"), api.ErrFull)
		p.refuses(publish("a 0.0.0"), api.ErrThere)
		p.refuses(text("x"), api.ErrLine)
		p.doesAll(cut(0))
		p.refuses(publish("b 1.0.0"), api.ErrFull)
		p.does(open())
	}
	p.refuses(add("b", "*", 0), api.ErrUnsat)
	p.does(add("a", "*", 0))
}

// P22.2: a publish while the power is off, be it by a cut or behind one that a command met: as ever, and the power stays off; what was published is there behind the opening.
func TestPublishDown(t *testing.T) {
	for _, meanwhile := range [][]api.Step{{cut(0)}, {cut(0), remove("a")}, {cut(1), remove("a")}, {cut(4), remove("a")}} {
		p := begun(t, chapter()...).doesAll(add("a", "*", 0))
		for _, x := range meanwhile {
			p.asks(x)
		}
		p.answers(publish("b 1.3.0"), api.Answer{})
		p.refuses(publish("b 1.3.0"), api.ErrThere)
		p.refuses(text("x"), api.ErrLine)
		p.answers(publish("z 1.0.0"), api.Answer{})
		p.refuses(add("z", "*", 0), api.ErrDown)
		p.refuses(cut(1), api.ErrDown)
		p.does(open())
		p.refuses(publish("z 1.0.0"), api.ErrThere)
		p.doesAll(add("z", "*", 0), add("a", "*", 0), update("b"))
		if got := p.reads("/modules/b/package"); got != "package b 1.3.0\n" {
			t.Error(got)
		}
	}
}

// P22.2: a publish does not bring a cut that is to come any nearer.
func TestPublishBeforeCut(t *testing.T) {
	p := begun(t).doesAll(cut(1))
	for i := range 9 {
		p.does(publish(fmt.Sprintf("a %d.0.0", i)))
		p.refuses(publish("a 0.0.0"), api.ErrThere)
	}
	p.quiet(install())
	p.answers(add("a", "*", 0), api.Answer{Code: api.ErrDown})
}

// P22.2: each Op that is one does its own thing.
func TestEachOp(t *testing.T) {
	p := begun(t)
	for i, k := range []struct {
		x    api.Step
		want api.Answer
	}{
		{api.Step{Op: 1, Pack: "package b 1.0.0\n"}, api.Answer{}},
		{api.Step{Op: 1, Pack: "package b 1.1.0\n"}, api.Answer{}},
		{api.Step{Op: 1, Pack: "package a 1.0.0\nneeds b *\n"}, api.Answer{}},
		{api.Step{Op: 2}, api.Answer{Nodes: 1}},
		{api.Step{Op: 3, Name: "a", Range: "*", Kind: 1}, api.Answer{Decisions: 2, Nodes: 3, Dirs: 2}},
		{api.Step{Op: 8, Name: "b", Range: "1.0.0"}, api.Answer{Decisions: 2, Nodes: 3, Dirs: 2}},
		{api.Step{Op: 8, Name: "b"}, api.Answer{Decisions: 2, Nodes: 3, Dirs: 2}},
		{api.Step{Op: 5, Name: "b"}, api.Answer{Decisions: 2, Nodes: 3, Dirs: 2}},
		{api.Step{Op: 6}, api.Answer{Decisions: 2, Nodes: 3, Dirs: 2}},
		{api.Step{Op: 7}, api.Answer{Nodes: 1}},
		{api.Step{Op: 2}, api.Answer{Decisions: 2, Nodes: 3, Dirs: 2}},
		{api.Step{Op: 9, N: 3}, api.Answer{}},
		{api.Step{Op: 4, Name: "a"}, api.Answer{Code: api.ErrDown}},
		{api.Step{Op: 10}, api.Answer{Nodes: 1}},
	} {
		if a := p.asks(k.x); a != k.want {
			t.Errorf("step %d, %s: %+v, not %+v", i, flat(k.x), a, k.want)
		}
	}
}

// P22.2: any other Op: refused, be the power on or off, a cut to come or not, and whatever the other fields are.
func TestNoOps(t *testing.T) {
	p := built(t)
	for _, ahead := range [][]api.Step{nil, {cut(1)}, {cut(0)}, {open(), cut(3), remove("a")}} {
		for _, x := range ahead {
			p.asks(x)
		}
		for _, op := range noOps() {
			p.refuses(api.Step{Op: op}, api.ErrOp)
			p.refuses(api.Step{Op: op, Name: "a", Range: "*", Kind: 1, Pack: "package zz 1.0.0\n", N: 2}, api.ErrOp)
			p.refuses(api.Step{Op: op, Name: "A", Range: "x", Kind: 3, Pack: "x", N: -1}, api.ErrOp)
		}
	}
	p.does(open())
	p.refuses(add("zz", "*", 0), api.ErrUnsat)
}

// P22.2: each command while the power is off: refused, and so are its arguments not looked at; nothing but a publish and an opening is done.
func TestCommandsDown(t *testing.T) {
	for _, ahead := range [][]api.Step{{cut(0)}, {cut(0), install()}, {cut(1), remove("a")}, {cut(2), remove("a")}, {cut(3), remove("a")}, {cut(5), remove("a")}} {
		p := built(t)
		for _, x := range ahead {
			p.asks(x)
		}
		for range 2 {
			for _, x := range some() {
				p.refuses(x, api.ErrDown)
			}
			for _, n := range []int{0, 1, -1, 100, math.MinInt, math.MaxInt} {
				p.refuses(cut(n), api.ErrDown)
			}
			for op := api.StepInstall; op <= api.StepOverride; op++ {
				p.refuses(api.Step{Op: op, Name: "\x00", Range: "\xff", Kind: -1, Pack: "x", N: -1}, api.ErrDown)
			}
		}
		p.doesAll(open(), install())
	}
}

// P22.2: what the project's Do refuses, with its number; all but Code is zero, nothing is written, and the session goes on.
func TestCommandsRefused(t *testing.T) {
	p := built(t)
	for _, name := range []string{"A", "1a", "a b", "a/b", "..", "\xff", "abcdefghijklmnopq", strings.Repeat("a", 1<<16)} {
		for _, x := range []api.Step{add(name, "*", 0), remove(name), update(name), override(name, "*"), override(name, "")} {
			p.refuses(x, api.ErrName)
		}
	}
	for _, x := range []api.Step{add("", "*", 0), remove(""), override("", "*"), override("", "")} {
		p.refuses(x, api.ErrName)
	}
	for _, s := range []string{"x", " ", "^*", "1.0", ">1.0.0 <1.0.1", "<0.0.0", strings.Repeat("*||", 1<<12)} {
		p.refuses(add("a", s, 0), api.ErrRange)
		p.refuses(override("a", s), api.ErrRange)
	}
	p.refuses(add("a", "", 0), api.ErrRange)
	for _, kind := range []int{-1, 3, math.MinInt, math.MaxInt} {
		p.refuses(add("a", "*", kind), api.ErrArg)
	}
	for _, x := range []api.Step{remove("zz"), remove("b"), update("zz"), override("zz", ""), override("a", "")} {
		p.refuses(x, api.ErrWant)
	}
	for _, x := range []api.Step{add("zz", "*", 0), add("a", ">1.0.0", 0), override("b", ">=3.0.0"), add("zz", "*", 1)} {
		p.refuses(x, api.ErrUnsat)
	}
	for i := range 15 {
		p.does(override(fmt.Sprintf("n%02d", i), "*"))
	}
	p.refuses(override("n15", "*"), api.ErrFull)
	p.doesAll(override("n03", ""), override("n15", "*"))
}
