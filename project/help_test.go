package project_test

import (
	"fmt"
	"slices"
	"strings"
	"testing"

	"halyard/api"
	"halyard/catalog"
	"halyard/disk"
	"halyard/edit"
	"halyard/graph"
	"halyard/image"
	"halyard/manifest"
	"halyard/pack"
	"halyard/project"
)

// lines is a text with a byte 10 in the place of each `; `, and at the end.
func lines(text string) string { return strings.ReplaceAll(text, "; ", "\n") + "\n" }

// publish puts packages such as `a 1.0.0; needs b ^1.0.0` into a catalog.
func publish(c *catalog.Catalog, texts ...string) *catalog.Catalog {
	for _, s := range texts {
		p, e := pack.Parse("package " + lines(s))
		if e != api.OK || c.Put(p) != api.OK {
			panic(s)
		}
	}
	return c
}

// published is a catalog with those packages.
func published(texts ...string) *catalog.Catalog { return publish(catalog.New(), texts...) }

// The steps.

func install() api.Step { return api.Step{Op: api.StepInstall} }

func dedupe() api.Step { return api.Step{Op: api.StepDedupe} }

func prune() api.Step { return api.Step{Op: api.StepPrune} }

func add(name, text string, kind int) api.Step {
	return api.Step{Op: api.StepAdd, Name: name, Range: text, Kind: kind}
}

func remove(name string) api.Step { return api.Step{Op: api.StepRemove, Name: name} }

func update(name string) api.Step { return api.Step{Op: api.StepUpdate, Name: name} }

func override(name, text string) api.Step {
	return api.Step{Op: api.StepOverride, Name: name, Range: text}
}

// example is the limits of the document's examples.
var example = api.Limits{Decisions: 100, Nodes: 20, Dirs: 20, Path: 200}

// greatest is the greatest limits that may be, least the least ones.
var (
	greatest = api.Limits{Decisions: 4096, Nodes: 128, Dirs: 256, Path: 1024}
	least    = api.Limits{Decisions: 1, Nodes: 1, Dirs: 1, Path: 1}
)

func dir(path string) api.File { return api.File{Path: path, Dir: true} }

func file(path, data string) api.File { return api.File{Path: path, Data: data} }

// with is files and some more, in a list of its own.
func with(l []api.File, more ...api.File) []api.File { return slices.Concat(l, more) }

// byPath is a copy of files, rising by their paths.
func byPath(l []api.File) []api.File {
	l = slices.Clone(l)
	slices.SortFunc(l, func(a, b api.File) int { return strings.Compare(a.Path, b.Path) })
	return l
}

// load is a disk with those files.
func load(t *testing.T, l []api.File) *disk.Disk {
	t.Helper()
	d, e := disk.Load(l)
	if e != api.OK {
		t.Fatalf("a disk does not take %s: error %d", flat(l), e)
	}
	return d
}

// filesOf is the files of a state that may be.
func filesOf(t *testing.T, s api.State) []api.File {
	t.Helper()
	l, e := image.Files(s)
	if e != api.OK {
		t.Fatalf("error %d: %s", e, flat(s))
	}
	return l
}

// same tells whether two states are the same; nil and empty lists are one.
func same(a, b api.State) bool {
	return a.Pruned == b.Pruned && manifest.Same(a.Manifest, b.Manifest) && graph.Same(a.Graph, b.Graph) &&
		slices.EqualFunc(a.Tree.Dirs, b.Tree.Dirs, func(a, b api.Dir) bool {
			return slices.Equal(a.Path, b.Path) && a.Node == b.Node && pack.Same(a.Pack, b.Pack)
		})
}

// words is raw writes, each as a text.
func words(l []api.Raw) []string {
	var out []string
	for _, r := range l {
		out = append(out, strings.TrimSpace([]string{"", "mkdir", "write", "rename", "remove"}[r.Kind]+" "+r.Path+" "+r.To))
	}
	return out
}

// flat is a value as a text that is not too long to tell.
func flat(v any) string {
	s := fmt.Sprintf("%+v", v)
	if len(s) > 2000 {
		return s[:2000] + " and so on"
	}
	return s
}

// session is a disk, a catalog, and a project on it; now: the state that the project must have.
type session struct {
	t   *testing.T
	d   *disk.Disk
	c   *catalog.Catalog
	l   api.Limits
	p   *project.Project
	now api.State
}

// begun is an empty project, with the limits of the examples.
func begun(t *testing.T, c *catalog.Catalog) *session {
	t.Helper()
	return within(t, image.Empty(), c, example)
}

// within is a project of that state on a disk of its own.
func within(t *testing.T, s api.State, c *catalog.Catalog, l api.Limits) *session {
	t.Helper()
	p := &session{t: t, d: load(t, filesOf(t, s)), c: c, l: l, now: s}
	p.opens()
	return p
}

// clone is a project of the same state on another disk, with the same catalog.
func (p *session) clone() *session {
	p.t.Helper()
	return within(p.t, p.now, p.c, p.l)
}

// opens opens the project anew, and tells a fault unless it has the state that it must have, and the disk its files.
func (p *session) opens() {
	p.t.Helper()
	q, e := project.Open(p.d, p.c, p.l)
	if e != api.OK {
		p.t.Fatalf("Open: error %d of %s", e, flat(p.d.All()))
	}
	p.p = q
	p.stands("Open")
}

// stands tells a fault unless the project has the state that it must have, and the disk just its files.
func (p *session) stands(what string) {
	p.t.Helper()
	if got := p.p.State(); !same(got, p.now) {
		p.t.Fatalf("%s: the state is %s, not %s", what, flat(got), flat(p.now))
	}
	if got, want := p.d.All(), filesOf(p.t, p.now); !slices.Equal(got, want) {
		p.t.Fatalf("%s: the files are %s, not %s", what, flat(got), flat(want))
	}
}

// next is the state and the answer of a step, as edit tells them.
func (p *session) next(x api.Step) (api.State, api.Answer) { return edit.Do(p.now, p.c, x, p.l) }

// asks does a step while the power is on, and tells a fault unless it is answered as edit tells, by just the raw writes that it must have, and the state and the files are those behind it.
func (p *session) asks(x api.Step) api.Answer {
	p.t.Helper()
	next, want := p.next(x)
	raws := modelRaws(filesOf(p.t, p.now), filesOf(p.t, next))
	p.d.Clear()
	if a := p.p.Do(x); a != want {
		p.t.Fatalf("%s of %s: %+v, not %+v", flat(x), flat(p.now), a, want)
	}
	if got := words(p.d.Raws()); !slices.Equal(got, raws) {
		p.t.Fatalf("%s of %s: the raw writes %s, not %s", flat(x), flat(p.now), flat(got), flat(raws))
	}
	p.now = next
	p.stands(flat(x))
	return want
}

// does does a step that must be done.
func (p *session) does(x api.Step) api.Answer {
	p.t.Helper()
	a := p.asks(x)
	if a.Code != api.OK {
		p.t.Fatalf("%s: error %d", flat(x), a.Code)
	}
	return a
}

// doesAll does one step behind the other, and is the project behind them.
func (p *session) doesAll(l ...api.Step) *session {
	p.t.Helper()
	for _, x := range l {
		p.does(x)
	}
	return p
}

// writes does a step that must be done by writing just to those paths, but for the journal's.
func (p *session) writes(x api.Step, want ...string) {
	p.t.Helper()
	p.does(x)
	var got []string
	for _, r := range p.d.Raws() {
		if !isJournal(r.Path) {
			got = append(got, r.Path)
		}
	}
	slices.Sort(got)
	if !slices.Equal(slices.Compact(got), want) {
		p.t.Errorf("%s: raw writes of %s, not of %s", flat(x), got, want)
	}
}

// quiet does a step that must be done without any raw write, also when the power would go behind the first one.
func (p *session) quiet(x api.Step) {
	p.t.Helper()
	for _, cut := range []int{1, 1 << 20} {
		p.d.Cut(cut)
		before := p.now
		if p.does(x); len(p.d.Raws()) != 0 || p.d.Down() || !same(p.now, before) {
			p.t.Fatalf("%s: the raw writes %s", flat(x), words(p.d.Raws()))
		}
		p.d.Up()
	}
}

// refuses tells a fault unless a step is refused by that error, and nothing is written or changed, a cut that is to come neither.
func (p *session) refuses(x api.Step, want api.Errno) {
	p.t.Helper()
	p.refusesLeaving(x, want, p.d.All())
	p.stands(flat(x))
}

// refusesLeaving is the same where the files are not those of the state.
func (p *session) refusesLeaving(x api.Step, want api.Errno, files []api.File) {
	p.t.Helper()
	p.d.Clear()
	if a := p.p.Do(x); a != (api.Answer{Code: want}) {
		p.t.Errorf("%s: %+v, not error %d", flat(x), a, want)
	}
	if got := p.d.All(); len(p.d.Raws()) != 0 || !slices.Equal(got, files) {
		p.t.Errorf("%s: refused by error %d, but written: %s, %s", flat(x), want, words(p.d.Raws()), flat(got))
	}
	if got := p.p.State(); !same(got, p.now) {
		p.t.Errorf("%s: refused by error %d, but the state is %s, not %s", flat(x), want, flat(got), flat(p.now))
	}
}

// paths is the paths of all that lies on the disk.
func (p *session) paths() []string {
	var l []string
	for _, f := range p.d.All() {
		l = append(l, f.Path)
	}
	return l
}

// isJournal tells whether a path is the journal's, or below it.
func isJournal(path string) bool { return path == "/journal" || strings.HasPrefix(path, "/journal/") }

// modelRaws is the raw writes that make files other ones, through a journal, by the chapters' words.
func modelRaws(before, after []api.File) []string {
	was, is := map[string]api.File{}, map[string]api.File{}
	for _, f := range before {
		was[f.Path] = f
	}
	for _, f := range after {
		is[f.Path] = f
	}
	var files, dirs, made, put []string
	for _, f := range slices.Backward(byPath(before)) {
		g, stays := is[f.Path]
		switch {
		case stays && g.Dir == f.Dir:
		case f.Dir:
			dirs = append(dirs, "remove "+f.Path)
		default:
			files = append(files, "remove "+f.Path)
		}
	}
	for _, f := range byPath(after) {
		g, was := was[f.Path]
		switch {
		case was && g == f:
		case f.Dir:
			made = append(made, "mkdir "+f.Path)
		default:
			put = append(put, "write "+f.Path)
		}
	}
	all := slices.Concat(files, dirs, made, put)
	if len(all) == 0 {
		return nil
	}
	return slices.Concat([]string{"mkdir /journal", "write /journal/plan.new", "rename /journal/plan.new /journal/plan"}, all, []string{"remove /journal/plan", "remove /journal"})
}
