package cli_test

import (
	"fmt"
	"slices"
	"strings"
	"testing"

	"halyard/api"
	"halyard/cli"
	"halyard/graph"
	"halyard/image"
	"halyard/manifest"
	"halyard/pack"
)

// The steps.

// publish is a publish of a package such as `a 1.0.0; needs b ^1.0.0`.
func publish(text string) api.Step {
	return api.Step{Op: api.StepPublish, Pack: "package " + strings.ReplaceAll(text, "; ", "\n") + "\n"}
}

func install() api.Step { return api.Step{Op: api.StepInstall} }

func dedupe() api.Step { return api.Step{Op: api.StepDedupe} }

func prune() api.Step { return api.Step{Op: api.StepPrune} }

func add(name, text string, kind int) api.Step {
	return api.Step{Op: api.StepAdd, Name: name, Range: text, Kind: kind}
}

func remove(name string) api.Step { return api.Step{Op: api.StepRemove, Name: name} }

func update(name string) api.Step { return api.Step{Op: api.StepUpdate, Name: name} }

func override(name, text string) api.Step {
	return api.Step{Op: api.StepOverride, Name: name, Range: text}
}

func cut(n int) api.Step { return api.Step{Op: api.StepCut, N: n} }

func open() api.Step { return api.Step{Op: api.StepOpen} }

// example is the limits of the document's examples.
var example = api.Limits{Decisions: 100, Nodes: 20, Dirs: 20, Path: 200}

// greatest is the greatest limits that may be, least the least ones.
var (
	greatest = api.Limits{Decisions: 4096, Nodes: 128, Dirs: 256, Path: 1024}
	least    = api.Limits{Decisions: 1, Nodes: 1, Dirs: 1, Path: 1}
)

// filesOf is the files of a state that may be.
func filesOf(t *testing.T, s api.State) []api.File {
	t.Helper()
	l, e := image.Files(s)
	if e != api.OK {
		t.Fatalf("error %d: %s", e, flat(s))
	}
	return l
}

// same tells whether two states are the same; nil and empty lists are one.
func same(a, b api.State) bool {
	return a.Pruned == b.Pruned && manifest.Same(a.Manifest, b.Manifest) && graph.Same(a.Graph, b.Graph) &&
		slices.EqualFunc(a.Tree.Dirs, b.Tree.Dirs, func(a, b api.Dir) bool {
			return slices.Equal(a.Path, b.Path) && a.Node == b.Node && pack.Same(a.Pack, b.Pack)
		})
}

// flat is a value as a text that is not too long to tell.
func flat(v any) string {
	s := fmt.Sprintf("%+v", v)
	if len(s) > 2000 {
		return s[:2000] + " and so on"
	}
	return s
}

// paths is the paths of files.
func paths(l []api.File) []string {
	var out []string
	for _, f := range l {
		out = append(out, f.Path)
	}
	return out
}

// session is a session, and the model of it.
type session struct {
	t    *testing.T
	s    *cli.Session
	m    *model
	done []api.Step // what it was asked, so that another one can be made the same
}

// within is a new session, with those packages published.
func within(t *testing.T, l api.Limits, packages ...string) *session {
	t.Helper()
	s, e := cli.New(l)
	if e != api.OK {
		t.Fatalf("New of %+v: error %d", l, e)
	}
	p := &session{t: t, s: s, m: newModel(t, l)}
	p.stands("New")
	for _, text := range packages {
		p.does(publish(text))
	}
	return p
}

// begun is the same in the limits of the examples.
func begun(t *testing.T, packages ...string) *session {
	t.Helper()
	return within(t, example, packages...)
}

// clone is another session that was asked the same.
func (p *session) clone() *session {
	p.t.Helper()
	q := within(p.t, p.m.l)
	for _, x := range p.done {
		q.asks(x)
	}
	return q
}

// stands tells a fault unless Files, Raws and State tell what the model tells.
func (p *session) stands(what string) {
	p.t.Helper()
	if got, want := p.s.Files(), p.m.d.All(); !slices.Equal(got, want) {
		p.t.Fatalf("%s: the files %s, not %s", what, flat(got), flat(want))
	}
	if got, want := p.s.Raws(), p.m.raws; !slices.Equal(got, want) {
		p.t.Fatalf("%s: the raw writes %s, not %s", what, flat(got), flat(want))
	}
	if got, want := p.s.State(), p.m.now; !same(got, want) {
		p.t.Fatalf("%s: the state %s, not %s", what, flat(got), flat(want))
	}
}

// asks does a step, and tells a fault unless the answer, and all that is told behind it, is the model's.
func (p *session) asks(x api.Step) api.Answer {
	p.t.Helper()
	p.done = append(p.done, x)
	a, want := p.s.Do(x), p.m.asks(x)
	if a != want {
		p.t.Fatalf("%s of %s: %+v, not %+v", flat(x), flat(p.m.now), a, want)
	}
	p.stands(flat(x))
	return a
}

// answers does a step that must be answered so.
func (p *session) answers(x api.Step, want api.Answer) {
	p.t.Helper()
	if a := p.asks(x); a != want {
		p.t.Fatalf("%s: %+v, not %+v", flat(x), a, want)
	}
}

// does does a step that must be done.
func (p *session) does(x api.Step) api.Answer {
	p.t.Helper()
	a := p.asks(x)
	if a.Code != api.OK {
		p.t.Fatalf("%s: error %d", flat(x), a.Code)
	}
	return a
}

// doesAll does one step behind the other, and is the session behind them.
func (p *session) doesAll(l ...api.Step) *session {
	p.t.Helper()
	for _, x := range l {
		p.does(x)
	}
	return p
}

// refuses tells a fault unless a step is refused by that error, writes nothing, and leaves all that is told as it was.
func (p *session) refuses(x api.Step, want api.Errno) {
	p.t.Helper()
	files, state := p.s.Files(), p.s.State()
	p.answers(x, api.Answer{Code: want})
	if len(p.s.Raws()) != 0 || !slices.Equal(p.s.Files(), files) || !same(p.s.State(), state) {
		p.t.Fatalf("%s: refused by error %d, but %s, %s", flat(x), want, flat(p.s.Raws()), flat(p.s.Files()))
	}
}

// quiet does a step that must be done without any raw write.
func (p *session) quiet(x api.Step) {
	p.t.Helper()
	files, state := p.s.Files(), p.s.State()
	p.does(x)
	if len(p.s.Raws()) != 0 || !slices.Equal(p.s.Files(), files) || !same(p.s.State(), state) {
		p.t.Fatalf("%s: %s, %s", flat(x), flat(p.s.Raws()), flat(p.s.Files()))
	}
}

// has tells a fault unless the disk has just those paths, but for /manifest and /lock.
func (p *session) has(want ...string) {
	p.t.Helper()
	got := slices.DeleteFunc(paths(p.s.Files()), func(s string) bool { return s == "/manifest" || s == "/lock" })
	if !slices.Equal(got, want) {
		p.t.Fatalf("%s, not %s", got, want)
	}
}

// reads is a file's bytes; what is not there has none.
func (p *session) reads(path string) string {
	for _, f := range p.s.Files() {
		if f.Path == path {
			return f.Data
		}
	}
	return ""
}

// chapter is the packages of the examples of chapter 19.
func chapter() []string { return []string{"a 1.0.0; needs b ^1.0.0", "b 1.0.0", "b 1.2.0"} }

// whole is those of the document's examples of the whole.
func whole() []string {
	return []string{"a 1.0.0; needs b ^1.0.0", "b 1.0.0", "b 1.2.0", "b 2.0.0", "c 1.0.0; needs b ^2.0.0", "p 1.0.0; beside b ^1.0.0"}
}

// built is a project with packages of all lists, one inside another, overrides and pruned.
func built(t *testing.T) *session {
	t.Helper()
	p := begun(t, "a 1.0.0; needs b ^1.0.0", "b 1.0.0", "b 1.2.0", "b 2.0.0", "c 1.0.0; needs b ^2.0.0; likes d *", "d 1.0.0; needs e *", "d 2.0.0; needs e 1.0.0", "e 1.0.0; needs d *", "e 1.1.0", "f 1.0.0")
	return p.doesAll(add("a", "*", 0), add("c", "*", 2), add("f", "*", 1), override("d", "1.0.0"), add("e", "1.1.0", 0), prune())
}

// some is commands of each kind, such as change the project that built gives, such as do not, and such as are refused.
func some() []api.Step {
	return []api.Step{
		install(), add("d", "*", 0), add("f", "1.0.0", 1), remove("a"), update("b"), update(""), dedupe(), prune(), override("b", "1.0.0"), override("d", ""),
		add("A", "*", 0), add("a", "x", 0), add("a", "*", 3), add("zz", "*", 0), remove("zz"), update("zz"), override("zz", ""),
	}
}

// noOps is Ops that are none.
func noOps() []int {
	const least, most = -1 << 63, 1<<63 - 1
	return []int{0, 11, -1, 12, -2, -9, -10, 100, 1 << 32, 1<<32 + 2, 1<<32 + 10, -1 << 32, least, least + 2, most}
}
