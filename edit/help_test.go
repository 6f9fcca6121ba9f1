package edit_test

import (
	"fmt"
	"slices"
	"strings"
	"testing"

	"halyard/api"
	"halyard/catalog"
	"halyard/edit"
	"halyard/graph"
	"halyard/image"
	"halyard/manifest"
	"halyard/pack"
	"halyard/span"
	"halyard/vers"
)

func version(text string) api.Version {
	v, ok := vers.Parse(text)
	if !ok {
		panic(text)
	}
	return v
}

func ranged(text string) []api.Span {
	l, e := span.Parse(text)
	if e != api.OK {
		panic(text)
	}
	return l
}

// lines is a text with a byte 10 in the place of each `; `, and at the end.
func lines(text string) string { return strings.ReplaceAll(text, "; ", "\n") + "\n" }

// publish puts packages such as `a 1.0.0; needs b ^1.0.0` into a catalog.
func publish(c *catalog.Catalog, texts ...string) *catalog.Catalog {
	for _, s := range texts {
		p, e := pack.Parse("package " + lines(s))
		if e != api.OK || c.Put(p) != api.OK {
			panic(s)
		}
	}
	return c
}

// published is a catalog with those packages.
func published(texts ...string) *catalog.Catalog { return publish(catalog.New(), texts...) }

// wanting is a manifest such as `needs a *; dev b *`.
func wanting(text string) api.Manifest {
	m, e := manifest.Parse("project\n" + strings.TrimPrefix(lines(text), "\n"))
	if e != api.OK {
		panic(text)
	}
	return m
}

// The steps.

func install() api.Step { return api.Step{Op: api.StepInstall} }

func dedupe() api.Step { return api.Step{Op: api.StepDedupe} }

func prune() api.Step { return api.Step{Op: api.StepPrune} }

func add(name, text string, kind int) api.Step {
	return api.Step{Op: api.StepAdd, Name: name, Range: text, Kind: kind}
}

func remove(name string) api.Step { return api.Step{Op: api.StepRemove, Name: name} }

func update(name string) api.Step { return api.Step{Op: api.StepUpdate, Name: name} }

func override(name, text string) api.Step {
	return api.Step{Op: api.StepOverride, Name: name, Range: text}
}

// ops is the Ops of all commands.
var ops = []int{api.StepInstall, api.StepAdd, api.StepRemove, api.StepUpdate, api.StepDedupe, api.StepPrune, api.StepOverride}

// example is the limits of the document's examples.
var example = api.Limits{Decisions: 100, Nodes: 20, Dirs: 20, Path: 200}

// widest is the greatest limits that may be.
var widest = api.Limits{Decisions: api.MaxDecisions, Nodes: api.MaxNodes, Dirs: api.MaxDirs, Path: api.MaxPath}

// session is a project that goes through commands.
type session struct {
	t *testing.T
	s api.State
	c *catalog.Catalog
	l api.Limits
}

// begun is an empty project, with the limits of the examples.
func begun(t *testing.T, c *catalog.Catalog) *session {
	return &session{t: t, s: image.Empty(), c: c, l: example}
}

// within is the same project, as it stands, in other limits.
func (p *session) within(l api.Limits) *session { return &session{t: p.t, s: p.s, c: p.c, l: l} }

// clone is the same project, as it stands: commands to the one do not touch the other.
func (p *session) clone() *session { return p.within(p.l) }

// does tells a fault unless a step is done, answered by the model's answer; the project goes on from there.
func (p *session) does(x api.Step) api.Answer {
	p.t.Helper()
	next, a := p.asModel(x)
	if a.Code != api.OK {
		p.t.Fatalf("%s: error %d", told(x), a.Code)
	}
	p.s = next
	return a
}

// doesAll does one step behind the other, and is the project behind them.
func (p *session) doesAll(l ...api.Step) *session {
	p.t.Helper()
	for _, x := range l {
		p.does(x)
	}
	return p
}

// comesTo tells a fault unless a step is done with so many decisions, and the project has just that tree behind it.
func (p *session) comesTo(x api.Step, decisions int, tree ...string) {
	p.t.Helper()
	a := p.does(x)
	p.has(told(x), tree...)
	if want := (api.Answer{Decisions: decisions, Nodes: len(p.s.Graph.Nodes), Dirs: len(tree)}); a != want {
		p.t.Errorf("%s: %+v, not %+v", told(x), a, want)
	}
}

// has tells a fault unless the project has just that tree, as drawn tells it.
func (p *session) has(what string, tree ...string) {
	p.t.Helper()
	if got := drawn(p.s.Tree); !slices.Equal(got, tree) {
		p.t.Errorf("%s: %q, not %q", what, got, tree)
	}
}

// wants tells a fault unless the project has that manifest.
func (p *session) wants(what, text string) {
	p.t.Helper()
	if want := wanting(text); !manifest.Same(p.s.Manifest, want) {
		got, e := manifest.Print(p.s.Manifest)
		p.t.Errorf("%s: the manifest is %q, error %d, not %q", what, got, e, text)
	}
}

// refuses tells a fault unless a step is refused by that error, as the model refuses it: the project is the same, and the answer tells nothing else.
func (p *session) refuses(x api.Step, want api.Errno) {
	p.t.Helper()
	next, a := p.asModel(x)
	if a != (api.Answer{Code: want}) {
		p.t.Errorf("%s: %+v, not error %d", told(x), a, want)
	}
	if !same(next, p.s) {
		p.t.Errorf("%s: %s behind a refusal, not %s", told(x), flat(next), flat(p.s))
	}
}

// asModel is what a step comes to; it tells a fault unless that is what the model tells.
func (p *session) asModel(x api.Step) (api.State, api.Answer) {
	p.t.Helper()
	next, a := edit.Do(p.s, p.c, x, p.l)
	want, b := model(p.s, p.c, x, p.l)
	if a != b || !same(next, want) {
		p.t.Fatalf("%s of %s in %+v: %+v, %s, not %+v, %s", told(x), flat(p.s), p.l, a, flat(next), b, flat(want))
	}
	return next, a
}

// drawn is a tree's directories but the root, each as its path and its version: `a/b 1.0.0`.
func drawn(t api.Tree) []string {
	var l []string
	for _, d := range t.Dirs {
		if len(d.Path) > 0 {
			l = append(l, strings.Join(d.Path, "/")+" "+vers.Print(d.Pack.Version))
		}
	}
	return l
}

// same tells whether two states are the same, order and nodes too; nil and empty lists are one.
func same(a, b api.State) bool {
	return manifest.Same(a.Manifest, b.Manifest) && a.Pruned == b.Pruned && sameShape(a, b)
}

// sameShape tells whether two states have the same graph and the same tree.
func sameShape(a, b api.State) bool {
	return graph.Same(a.Graph, b.Graph) && slices.EqualFunc(a.Tree.Dirs, b.Tree.Dirs, func(a, b api.Dir) bool {
		return slices.Equal(a.Path, b.Path) && a.Node == b.Node && pack.Same(a.Pack, b.Pack)
	})
}

// told is a step as a text.
func told(x api.Step) string { return short(fmt.Sprintf("%+v", x)) }

// flat is a state, be it such as may be or not, as a text.
func flat(s api.State) string { return short(fmt.Sprintf("%+v", s)) }

// short cuts a text that is too long to tell.
func short(s string) string {
	if len(s) > 3000 {
		return s[:3000] + " and so on"
	}
	return s
}

// noNames is names that may not be, but for the empty one.
func noNames() []string {
	return []string{"A", "aB", "1a", "-a", "a_b", "a.b", "a/b", "/", "a b", " a", "a ", "a\n", "\x00", "\xff", "\u00e9", "..", "abcdefghijklmnopq", strings.Repeat("a", 5000)}
}

// noRanges is texts that are no range's, or that of the range of none, but for the empty one.
func noRanges() []string {
	return []string{"x", " ", "||", "1.0.0||", "> 1.0.0", "1.0", "^*", "1.0.0,2.0.0", "1.0.1000", "\xff", strings.Repeat(" ", 4096) + "*", "<0.0.0", ">999.999.999", ">1.0.0 <1.0.1", "1.0.0 2.0.0", singles(65)}
}

// singles is the text of so many single versions, no two of which touch.
func singles(count int) string {
	var l []string
	for i := range count {
		l = append(l, fmt.Sprintf("100.100.%d", 100+2*i))
	}
	return strings.Join(l, " || ")
}

// names is so many names that rise, with that letter ahead.
func names(letter string, count int) []string {
	var l []string
	for i := range count {
		l = append(l, fmt.Sprintf("%s%02d", letter, i))
	}
	return l
}
