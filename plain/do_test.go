package plain_test

import (
	"fmt"
	"math"
	"slices"
	"strings"
	"testing"

	"halyard/api"
	"halyard/catalog"
	"halyard/edit"
	"halyard/image"
	"halyard/manifest"
	"halyard/plain"
	"halyard/vers"
)

// The steps.

func install() api.Step { return api.Step{Op: api.StepInstall} }

func dedupe() api.Step { return api.Step{Op: api.StepDedupe} }

func prune() api.Step { return api.Step{Op: api.StepPrune} }

func add(name, text string, kind int) api.Step {
	return api.Step{Op: api.StepAdd, Name: name, Range: text, Kind: kind}
}

func remove(name string) api.Step { return api.Step{Op: api.StepRemove, Name: name} }

func update(name string) api.Step { return api.Step{Op: api.StepUpdate, Name: name} }

func override(name, text string) api.Step {
	return api.Step{Op: api.StepOverride, Name: name, Range: text}
}

// ops is the Ops of all commands.
var ops = []int{api.StepInstall, api.StepAdd, api.StepRemove, api.StepUpdate, api.StepDedupe, api.StepPrune, api.StepOverride}

// session is a project that goes through commands.
type session struct {
	t *testing.T
	s api.State
	c *catalog.Catalog
	l api.Limits
}

// begun is an empty project, with the limits of the examples.
func begun(t *testing.T, packages ...string) *session {
	return &session{t: t, s: image.Empty(), c: published(packages...), l: example}
}

// within is the same project, as it stands, in other limits.
func (p *session) within(l api.Limits) *session { return &session{t: p.t, s: p.s, c: p.c, l: l} }

// clone is the same project, as it stands: commands to the one do not touch the other.
func (p *session) clone() *session { return p.within(p.l) }

// asEdit is what a step comes to; it tells a fault unless that is what edit.Do tells.
func (p *session) asEdit(x api.Step) (api.State, api.Answer) {
	p.t.Helper()
	next, a := plain.Do(p.s, p.c, x, p.l)
	want, b := edit.Do(p.s, p.c, x, p.l)
	if a != b || !same(next, want) {
		p.t.Fatalf("%s of %s in %+v: %+v, %s, not %+v, %s", flat(x), flat(p.s), p.l, a, flat(next), b, flat(want))
	}
	return next, a
}

// does tells a fault unless a step is done; the project goes on from there.
func (p *session) does(x api.Step) api.Answer {
	p.t.Helper()
	next, a := p.asEdit(x)
	if a.Code != api.OK {
		p.t.Fatalf("%s: error %d", flat(x), a.Code)
	}
	p.s = next
	return a
}

// doesAll does one step behind the other, and is the project behind them.
func (p *session) doesAll(l ...api.Step) *session {
	p.t.Helper()
	for _, x := range l {
		p.does(x)
	}
	return p
}

// comesTo tells a fault unless a step is done with so many decisions, and the project has just that tree behind it.
func (p *session) comesTo(x api.Step, decisions int, tree ...string) {
	p.t.Helper()
	a := p.does(x)
	p.has(flat(x), tree...)
	if want := (api.Answer{Decisions: decisions, Nodes: len(p.s.Graph.Nodes), Dirs: len(tree)}); a != want {
		p.t.Errorf("%s: %+v, not %+v", flat(x), a, want)
	}
}

// has tells a fault unless the project has just those directories, each as its path and its version, such as `a/b 1.0.0`.
func (p *session) has(what string, tree ...string) {
	p.t.Helper()
	var got []string
	for _, d := range p.s.Tree.Dirs[1:] {
		got = append(got, strings.Join(d.Path, "/")+" "+vers.Print(d.Pack.Version))
	}
	if !slices.Equal(got, tree) {
		p.t.Errorf("%s: %q, not %q", what, got, tree)
	}
}

// wants tells a fault unless the project has that manifest, and is pruned or not.
func (p *session) wants(what, text string, pruned bool) {
	p.t.Helper()
	if !manifest.Same(p.s.Manifest, wanting(text)) || p.s.Pruned != pruned {
		p.t.Errorf("%s: %s, pruned %v, not %q", what, flat(p.s.Manifest), p.s.Pruned, text)
	}
}

// refuses tells a fault unless a step is refused by that error: the project is the same, and the answer tells nothing else.
func (p *session) refuses(x api.Step, want api.Errno) {
	p.t.Helper()
	next, a := p.asEdit(x)
	if a != (api.Answer{Code: want}) {
		p.t.Errorf("%s: %+v, not error %d", flat(x), a, want)
	}
	if !same(next, p.s) {
		p.t.Errorf("%s: %s behind a refusal, not %s", flat(x), flat(next), flat(p.s))
	}
}

// edited is the packages of chapter 19's examples.
func edited() []string { return []string{"a 1.0.0; needs b ^1.0.0", "b 1.0.0", "b 1.2.0"} }

// P21.3: the examples of chapter 19.
func TestExamplesOfEdit(t *testing.T) {
	p := begun(t, edited()...)
	p.comesTo(add("a", "*", 0), 2, "a 1.0.0", "b 1.2.0")
	p.refuses(add("a", ">1.0.0", 0), api.ErrUnsat)
	p.refuses(add("A", "*", 0), api.ErrName)
	p.refuses(add("a", "x", 0), api.ErrRange)
	p.refuses(add("a", "*", 3), api.ErrArg)
	p.refuses(remove("b"), api.ErrWant)
	p.refuses(update("c"), api.ErrWant)
	p.comesTo(override("b", "1.0.0"), 2, "a 1.0.0", "b 1.0.0")
	p.comesTo(override("b", ""), 2, "a 1.0.0", "b 1.0.0")
	p.comesTo(update("b"), 2, "a 1.0.0", "b 1.2.0")
	p.refuses(update("c"), api.ErrWant)
	p.refuses(override("c", ""), api.ErrWant)
}

// whole is the packages of the document's examples of the whole.
func whole() []string {
	return []string{"a 1.0.0; needs b ^1.0.0", "b 1.0.0", "b 1.2.0", "b 2.0.0", "c 1.0.0; needs b ^2.0.0", "p 1.0.0; beside b ^1.0.0"}
}

// W2: the document's examples of the whole, as far as they are commands.
func TestExamplesOfTheWhole(t *testing.T) {
	p := begun(t, whole()...)
	p.comesTo(add("a", "*", 0), 2, "a 1.0.0", "b 1.2.0")
	p.comesTo(add("c", "*", 0), 4, "a 1.0.0", "b 1.2.0", "c 1.0.0", "c/b 2.0.0")
	p.refuses(add("p", "*", 0), api.ErrUnsat)
	p.does(add("b", "^1.0.0", 0))
	p.does(add("p", "*", 0))
	p.has("p is added", "a 1.0.0", "b 1.2.0", "c 1.0.0", "c/b 2.0.0", "p 1.0.0")
	p.doesAll(add("b", "*", 0), update("b"))
	p.has("b is updated beside p", "a 1.0.0", "b 1.2.0", "c 1.0.0", "c/b 2.0.0", "p 1.0.0")
	p.doesAll(remove("p"), update("b"))
	fifth := []string{"a 1.0.0", "a/b 1.2.0", "b 2.0.0", "c 1.0.0"}
	p.has("b is updated without p", fifth...)
	before := p.s
	p.does(dedupe())
	if !same(p.s, before) {
		t.Errorf("a dedupe: %s, not %s", flat(p.s), flat(before))
	}
	p.does(override("b", "1.0.0"))
	p.has("b is overridden", "a 1.0.0", "b 1.0.0", "c 1.0.0")
	p.doesAll(override("b", ""), install())
	p.has("an install", fifth...)
	p.refuses(add("z", "*", 0), api.ErrUnsat)
	p.refuses(remove("z"), api.ErrWant)
	p.refuses(add("B", "*", 0), api.ErrName)
	p.refuses(api.Step{Op: 11}, api.ErrOp)
}

// asked is one step of each command that is done of a project that wants a, overrides b, and has both.
func asked() []api.Step {
	return []api.Step{install(), add("a", "*", 1), remove("a"), update("a"), update(""), dedupe(), prune(), override("a", "*"), override("b", "")}
}

// wrong is steps that are wrong in themselves, and such as no command is.
func wrong() []api.Step {
	return []api.Step{add("A", "x", 9), add("a", "x", 0), remove("A"), remove("zz"), update("A"), update("zz"), override("A", "x"), override("zz", ""), add("zz", "*", 0), {Op: 0}, {Op: 99}}
}

// built is a project that wants a, overrides b, and has both.
func built(t *testing.T) *session {
	return begun(t, edited()...).doesAll(add("a", "*", 0), override("b", "*"))
}

// P21.3: without a catalog, whatever else may be or not.
func TestDoWithoutCatalog(t *testing.T) {
	p := built(t)
	p.c = nil
	for _, x := range append(asked(), wrong()...) {
		p.refuses(x, api.ErrArg)
		p.within(api.Limits{}).refuses(x, api.ErrArg)
	}
	p.s = api.State{}
	p.refuses(install(), api.ErrArg)
	if got, a := plain.Do(image.Empty(), &catalog.Catalog{}, install(), least); a != (api.Answer{Nodes: 1}) || !same(got, image.Empty()) {
		t.Errorf("a catalog that New did not give: %+v, %s", a, flat(got))
	}
}

// P21.3: each of the four limits one below and one above what it may be, and at both ends.
func TestDoLimits(t *testing.T) {
	p := built(t)
	for _, of := range []limit{decisions, nodes, dirs, path} {
		for _, n := range of.outside() {
			for _, x := range append(asked(), wrong()...) {
				p.within(of.of(example, n)).refuses(x, api.ErrArg)
			}
		}
		for _, n := range of.ends() {
			begun(t, edited()...).within(of.of(least, n)).comesTo(install(), 0)
			p.within(of.of(least, n)).refuses(add("A", "*", 0), api.ErrName)
		}
		p.within(of.of(example, of.most)).comesTo(install(), 2, "a 1.0.0", "b 1.2.0")
	}
	p.within(widest).comesTo(install(), 2, "a 1.0.0", "b 1.2.0")
	just := api.Limits{Decisions: 2, Nodes: 3, Dirs: 2, Path: len("/modules/a")}
	p.within(just).comesTo(install(), 2, "a 1.0.0", "b 1.2.0")
	for _, q := range []struct {
		of   limit
		want api.Errno
	}{{decisions, api.ErrBudget}, {nodes, api.ErrTooMany}, {dirs, api.ErrTooDeep}, {path, api.ErrTooLong}} {
		p.within(q.of.of(just, *q.of.at(&just)-1)).refuses(install(), q.want)
	}
}

// P21.3: a state that may not be, by each of its parts.
func TestStateThatMayNotBe(t *testing.T) {
	p := built(t)
	for what, change := range map[string]func(s *api.State){
		"no graph":                    func(s *api.State) { s.Graph = api.Graph{} },
		"no tree":                     func(s *api.State) { s.Tree = api.Tree{} },
		"nothing":                     func(s *api.State) { *s = api.State{} },
		"nothing, and Pruned":         func(s *api.State) { *s = api.State{Pruned: true} },
		"a name that may not be":      func(s *api.State) { s.Manifest.Deps[0].Name = "A" },
		"a range of none":             func(s *api.State) { s.Manifest.Overrides[0].Range = nil },
		"a name in two lists":         func(s *api.State) { s.Manifest.Dev = s.Manifest.Deps },
		"a root with a name":          func(s *api.State) { s.Graph.Nodes[0].Name = "a" },
		"an edge that leads nowhere":  func(s *api.State) { s.Graph.Nodes[0].Edges[0].To = 9 },
		"a node of another version":   func(s *api.State) { s.Graph.Nodes[1].Version.Major++ },
		"a package of another one":    func(s *api.State) { s.Tree.Dirs[1].Pack.Version.Patch++ },
		"another number of a node":    func(s *api.State) { s.Tree.Dirs[1].Node = 2 },
		"directories in no order":     func(s *api.State) { s.Tree.Dirs[1], s.Tree.Dirs[2] = s.Tree.Dirs[2], s.Tree.Dirs[1] },
		"a directory that is missing": func(s *api.State) { s.Tree.Dirs = s.Tree.Dirs[:2] },
		"a directory twice":           func(s *api.State) { s.Tree.Dirs = append(s.Tree.Dirs, s.Tree.Dirs[2]) },
	} {
		q := p.clone()
		q.s = copied(p.s)
		change(&q.s)
		if _, e := image.Files(q.s); e != api.ErrImage {
			t.Errorf("%s: it may be", what)
		}
		for _, x := range append(asked(), wrong()...) {
			q.refuses(x, api.ErrArg)
		}
	}
}

// P21.3: a state that may be, though no command comes to it: its graph is no solution, and has nodes that are not reached.
func TestStateOfItsOwn(t *testing.T) {
	p := built(t)
	p.s.Graph.Nodes = append(p.s.Graph.Nodes, api.Node{Name: "zz", Version: version("9.9.9")}, api.Node{Name: "b", Version: version("1.0.0")})
	p.does(update("zz"))
	p.has("what is not reached is gone", "a 1.0.0", "b 1.2.0")
	p.refuses(update("zz"), api.ErrWant)
	q := built(t)
	q.s.Manifest = api.Manifest{}
	q.clone().comesTo(dedupe(), 0)
	q.clone().comesTo(add("b", "*", 0), 1, "b 1.2.0")
	// Pins of nodes that are not reached count, too.
	r := begun(t, edited()...)
	r.s.Graph.Nodes = append(r.s.Graph.Nodes, api.Node{Name: "b", Version: version("1.0.0")})
	r.clone().comesTo(add("a", "*", 0), 2, "a 1.0.0", "b 1.0.0")
	r.clone().doesAll(install()).comesTo(add("a", "*", 0), 2, "a 1.0.0", "b 1.2.0")
}

// P21.3: an Op that is none of the seven, whatever else there is.
func TestNoSuchOp(t *testing.T) {
	p := built(t)
	for _, op := range []int{0, -1, -2, -8, api.StepPublish, api.StepCut, api.StepOpen, 11, 12, 258, 1 << 32, 1<<32 + 2, math.MinInt, math.MaxInt} {
		for _, x := range append(asked(), wrong()...) {
			x.Op = op
			p.refuses(x, api.ErrOp)
			begun(t).refuses(x, api.ErrOp)
		}
		p.within(api.Limits{}).refuses(api.Step{Op: op}, api.ErrArg)
	}
	for op, want := range map[int]api.Errno{2: api.OK, 3: api.ErrName, 4: api.ErrName, 5: api.ErrName, 6: api.OK, 7: api.OK, 8: api.ErrName} {
		if _, a := p.asEdit(api.Step{Op: op, Name: "A", Range: "x", Kind: 7}); a.Code != want {
			t.Errorf("Op %d: error %d, not %d", op, a.Code, want)
		}
	}
}

// P21.3: a name that is none comes ahead of all else that a command asks.
func TestErrName(t *testing.T) {
	p := built(t)
	for _, name := range append(noNames(), "") {
		for _, text := range []string{"*", "x", "", "<0.0.0"} {
			p.refuses(add(name, text, 0), api.ErrName)
			p.refuses(add(name, text, 3), api.ErrName)
			p.refuses(override(name, text), api.ErrName)
		}
		p.refuses(remove(name), api.ErrName)
		if name != "" {
			p.refuses(update(name), api.ErrName)
		}
	}
	for _, name := range []string{"a", "abcdefghijklmnop", "z-9"} {
		p := begun(t, name+" 1.0.0")
		p.comesTo(add(name, "*", 0), 1, name+" 1.0.0")
		p.comesTo(update(name), 1, name+" 1.0.0")
		p.comesTo(override(name, "1.0.0"), 1, name+" 1.0.0")
		p.comesTo(remove(name), 0)
	}
}

// P21.3: no range, or one that has no version, comes ahead of Kind; a Kind that is none ahead of a manifest that would have too much.
func TestErrRangeAndKind(t *testing.T) {
	p, full := built(t), crowd(t)
	for _, text := range append(noRanges(), "") {
		for _, kind := range []int{0, 1, 2, 3, -1} {
			p.refuses(add("a", text, kind), api.ErrRange)
			full.refuses(add("zz", text, kind), api.ErrRange)
		}
		if text != "" {
			p.refuses(override("a", text), api.ErrRange)
			p.refuses(override("b", text), api.ErrRange)
			full.refuses(override("zz", text), api.ErrRange)
		}
	}
	for _, kind := range []int{-1, -2, 3, 4, 256, 1 << 32, math.MinInt, math.MaxInt} {
		p.refuses(add("a", "*", kind), api.ErrArg)
		full.refuses(add("zz", "*", kind), api.ErrArg)
	}
	p.refuses(add("a", singles(64), 0), api.ErrUnsat)
	p.does(add("a", "1.0.0"+strings.Repeat(" ", 4091), 0))
	p.wants("a range with blanks", "needs a 1.0.0; pins b *", false)
}

// crowd is a project with as many in each list as may be, of names with the letters k, l, m and o ahead.
func crowd(t *testing.T) *session {
	var texts []string
	for _, letter := range []string{"k", "l", "m", "z"} {
		for _, name := range names(letter, 16) {
			texts = append(texts, name+" 1.0.0")
		}
	}
	p := begun(t, texts...).within(widest)
	for kind, letter := range []string{"k", "l", "m"} {
		for _, name := range names(letter, 16) {
			p.does(add(name, "*", kind))
		}
	}
	for _, name := range names("o", 16) {
		p.does(override(name, "*"))
	}
	return p
}

// P21.3: a manifest that would have too many names, or too many bytes.
func TestErrFull(t *testing.T) {
	p := crowd(t)
	for kind := range 3 {
		p.refuses(add("zz", "*", kind), api.ErrFull)
		p.refuses(add("aa", "1.0.0", kind), api.ErrFull)
		for other, letter := range []string{"k", "l", "m"} {
			if other == kind {
				p.clone().does(add(letter+"005", "1.0.0", kind))
			} else {
				p.refuses(add(letter+"005", "1.0.0", kind), api.ErrFull)
			}
		}
	}
	p.refuses(override("zz", "*"), api.ErrFull)
	p.refuses(override("k000", "*"), api.ErrFull)
	p.clone().does(override("o007", "1.0.0"))
	p.clone().doesAll(override("o007", ""), override("zz", "1.0.0")).refuses(override("o007", "*"), api.ErrFull)
	p.within(least).refuses(add("zz", "*", 0), api.ErrFull)
	// Four ranges of some 900 bytes, and one with which the text has just as many bytes as may be, or one more.
	q := begun(t, "a 1.0.0")
	for i := range 4 {
		q.does(add(fmt.Sprint("x", i), singles(60), 2))
	}
	text, _ := manifest.Print(q.s.Manifest)
	room := 4096 - len(text) - len("pins a \n")
	for _, more := range []int{-1, 0, 1} {
		want := api.OK
		if more > 0 {
			want = api.ErrFull
		}
		text := sized(room + more)
		if _, a := q.asEdit(override("a", text)); a.Code != want || len(text) != room+more {
			t.Errorf("%d bytes more than may be: error %d, not %d", more, a.Code, want)
		}
	}
}

// sized is the text of a range of just so many bytes, as it is written: versions of 7 to 11 bytes, no two of which touch.
func sized(size int) string {
	var l []string
	count := (size + 4 + 14) / 15
	for i := range count {
		digits := (size+4+i)/count - len(" || 100..")
		l = append(l, fmt.Sprintf("%d.%s.%s", 100+i, strings.Repeat("1", digits-digits/2), strings.Repeat("1", digits/2)))
	}
	return strings.Join(l, " || ")
}

// P21.3: what is not there is not removed, updated, or overridden no more.
func TestErrWant(t *testing.T) {
	p := begun(t, "a 1.0.0; needs d *", "b 1.0.0", "c 1.0.0", "d 1.0.0", "e 1.0.0")
	p.doesAll(add("a", "*", 0), add("b", "*", 1), add("c", "9.0.0", 2), override("e", "*"))
	for _, name := range []string{"d", "e", "zz", "aa"} {
		p.refuses(remove(name), api.ErrWant)
	}
	for _, name := range []string{"a", "b", "c"} {
		p.clone().doesAll(remove(name)).refuses(remove(name), api.ErrWant)
	}
	for _, name := range []string{"c", "e", "zz", "aa"} {
		p.refuses(update(name), api.ErrWant)
	}
	p.clone().doesAll(update("a"), update("b"), update("d"), prune()).refuses(update("b"), api.ErrWant)
	for _, name := range []string{"a", "b", "c", "d", "zz"} {
		p.refuses(override(name, ""), api.ErrWant)
	}
	p.doesAll(override("e", "")).refuses(override("e", ""), api.ErrWant)
	for _, x := range []api.Step{remove("a"), update("a"), override("a", "")} {
		begun(t).refuses(x, api.ErrWant)
	}
}

// P21.3: the error of the search, and behind it that of the places, come behind all that commands ask.
func TestErrorsBehind(t *testing.T) {
	p := begun(t, "a 1.0.0; needs b 1.0.0", "b 1.0.0", "b 2.0.0", "u 1.0.0; needs zz *").doesAll(add("a", "*", 0), add("b", "2.0.0", 0))
	p.has("b stands twice", "a 1.0.0", "a/b 1.0.0", "b 2.0.0")
	p.refuses(add("u", "*", 0), api.ErrUnsat)
	p.refuses(add("zz", "*", 1), api.ErrUnsat)
	p.refuses(override("b", "3.0.0"), api.ErrUnsat)
	p.clone().does(add("u", "*", 2))
	just := api.Limits{Decisions: 3, Nodes: 4, Dirs: 3, Path: len("/modules/a/modules/b")}
	for _, x := range []api.Step{install(), add("a", "*", 0), update("a"), update(""), dedupe(), prune(), override("zz", "*")} {
		p.within(just).does(x)
		for i, of := range []limit{decisions, nodes, path, dirs} {
			// The narrower limits behind it do not come to be told.
			l := of.of(just, *of.at(&just)-1)
			if i < 2 {
				l.Dirs, l.Path = 1, 1
			}
			p.within(l).refuses(x, []api.Errno{api.ErrBudget, api.ErrTooMany, api.ErrTooLong, api.ErrTooDeep}[i])
		}
	}
	tight := example
	tight.Path, tight.Dirs = 1, 1
	p.within(tight).refuses(add("zz", "*", 0), api.ErrUnsat)
	p.within(tight).refuses(remove("b"), api.ErrTooLong)
	// A state that was right may be so no more: what it needs is gone.
	gone := begun(t, "b 1.0.0")
	gone.s = p.s
	for _, x := range []api.Step{install(), update("a"), update(""), dedupe(), prune(), add("b", "*", 0), override("b", "*")} {
		gone.refuses(x, api.ErrUnsat)
	}
}

// P21.3: the manifest: what adds and removes put into its lists, and take out of them.
func TestManifests(t *testing.T) {
	p := begun(t, "a 1.0.0", "a 2.0.0", "m 1.0.0", "m 2.0.0", "z 1.0.0")
	words := []string{"needs", "dev", "likes"}
	for from := range 3 {
		for to := range 3 {
			q := p.clone().doesAll(add("m", "<2.0.0", from))
			q.wants("the first add", words[from]+" m <2.0.0", false)
			q.does(add("m", "2.0.0||  1.0.0", to))
			q.wants("the second add", words[to]+" m 1.0.0 || 2.0.0", false)
			q.has("it is pinned", "m 1.0.0")
			q.comesTo(remove("m"), 0)
			q.wants("a remove", "", false)
		}
	}
	p.doesAll(add("m", "*", 0), add("z", "*", 0), add("a", "^1.0.0", 0), override("z", "*"), override("q", "1.0.0"))
	p.wants("three names", "needs a ^1.0.0; needs m *; needs z *; pins q 1.0.0; pins z *", false)
	p.doesAll(add("m", "1.0.0", 2), add("z", "*", 1), override("q", "2.0.0"), override("a", "2.0.0"))
	p.wants("one of each", "needs a ^1.0.0; dev z *; likes m 1.0.0; pins a 2.0.0; pins q 2.0.0; pins z *", false)
	p.has("an override", "a 2.0.0", "m 1.0.0", "z 1.0.0")
	p.doesAll(override("q", ""), remove("m"), remove("z"))
	p.wants("some are gone", "needs a ^1.0.0; pins a 2.0.0; pins z *", false)
	// What is added, or overridden, anew has the range that was told last.
	p.doesAll(add("a", "*", 0), override("a", "1.0.0"))
	p.wants("other ranges", "needs a *; pins a 1.0.0; pins z *", false)
	p.has("other ranges", "a 1.0.0")
}

// aged is a project that wants a, b and x, for developing c, and likes d, each of 1.0.0; then 1.1.0 of each came out.
func aged(t *testing.T) *session {
	p := begun(t, "a 1.0.0; needs x *", "b 1.0.0; needs x *", "c 1.0.0", "d 1.0.0", "x 1.0.0", "n 1.0.0").doesAll(add("a", "*", 0), add("b", "*", 0), add("c", "*", 1), add("d", "*", 2))
	publish(p.c, "a 1.1.0; needs x *", "b 1.1.0; needs x *", "c 1.1.0", "d 1.1.0", "x 1.1.0", "n 1.1.0")
	return p
}

// P21.3: the pins: what a command keeps in its version, and what it does not.
func TestPins(t *testing.T) {
	p := aged(t)
	for _, x := range []api.Step{dedupe(), override("zz", "*"), add("zz", "*", 2), add("a", ">=1.0.0", 0), add("c", "*", 1)} {
		p.clone().doesAll(x).has(flat(x), "a 1.0.0", "b 1.0.0", "c 1.0.0", "d 1.0.0", "x 1.0.0")
	}
	p.clone().comesTo(prune(), 5, "a 1.0.0", "b 1.0.0", "d 1.0.0", "x 1.0.0")
	p.clone().comesTo(remove("a"), 4, "b 1.0.0", "c 1.0.0", "d 1.0.0", "x 1.0.0")
	p.clone().comesTo(add("n", "*", 0), 7, "a 1.0.0", "b 1.0.0", "c 1.0.0", "d 1.0.0", "n 1.1.0", "x 1.0.0")
	p.clone().comesTo(override("x", "1.1.0"), 6, "a 1.0.0", "b 1.0.0", "c 1.0.0", "d 1.0.0", "x 1.1.0")
	all := []string{"a 1.1.0", "b 1.1.0", "c 1.1.0", "d 1.1.0", "x 1.1.0"}
	p.clone().comesTo(install(), 6, all...)
	p.clone().comesTo(update(""), 6, all...)
	p.clone().comesTo(update("a"), 6, "a 1.1.0", "b 1.0.0", "c 1.0.0", "d 1.0.0", "x 1.0.0")
	p.clone().comesTo(update("x"), 6, "a 1.0.0", "b 1.0.0", "c 1.0.0", "d 1.0.0", "x 1.1.0")
	p.clone().comesTo(update("c"), 6, "a 1.0.0", "b 1.0.0", "c 1.1.0", "d 1.0.0", "x 1.0.0")
}

// P21.3: the old tree: which commands leave directories where they stand, and which do not.
func TestOldOfCommands(t *testing.T) {
	p := begun(t, "a 1.0.0; needs x 1.0.0", "x 1.0.0", "x 2.0.0", "d 1.0.0", "n 1.0.0").doesAll(add("a", "*", 0), add("d", "*", 1), add("x", "2.0.0", 0))
	p.has("with both", "a 1.0.0", "a/x 1.0.0", "d 1.0.0", "x 2.0.0")
	p.comesTo(remove("x"), 3, "a 1.0.0", "a/x 1.0.0", "d 1.0.0")
	for _, x := range []api.Step{add("a", "*", 0), add("zz", "*", 2), update(""), update("x"), override("x", "*")} {
		p.clone().doesAll(x).has(flat(x), "a 1.0.0", "a/x 1.0.0", "d 1.0.0")
	}
	p.clone().comesTo(prune(), 2, "a 1.0.0", "a/x 1.0.0")
	p.clone().comesTo(dedupe(), 3, "a 1.0.0", "d 1.0.0", "x 1.0.0")
	p.clone().comesTo(install(), 3, "a 1.0.0", "d 1.0.0", "x 1.0.0")
	p.clone().doesAll(override("x", "*")).comesTo(override("x", ""), 3, "a 1.0.0", "a/x 1.0.0", "d 1.0.0")
}

// P21.3: pruned: which commands leave out what Dev wants, of a project that is pruned and of one that is not.
func TestPruned(t *testing.T) {
	p := begun(t, "a 1.0.0", "d 1.0.0; needs e *", "e 1.0.0", "n 1.0.0").doesAll(add("a", "*", 0), add("d", "*", 1), override("zz", "*"))
	whole, part := []string{"a 1.0.0", "d 1.0.0", "e 1.0.0"}, []string{"a 1.0.0"}
	for _, x := range []api.Step{install(), dedupe(), add("a", "*", 0), add("a", "*", 2), update(""), update("d"), override("yy", "*"), override("zz", "")} {
		q := p.clone().doesAll(x)
		q.has(flat(x), whole...)
		if q.s.Pruned {
			t.Errorf("%s: it is pruned", flat(x))
		}
	}
	q := p.clone()
	q.comesTo(prune(), 1, part...)
	q.wants("a prune", "needs a *; dev d *; pins zz *", true)
	for _, x := range []api.Step{prune(), dedupe(), add("a", "*", 0), add("a", "*", 2), update(""), update("a"), override("yy", "*"), override("zz", ""), remove("d")} {
		r := q.clone().doesAll(x)
		r.has(flat(x), part...)
		if !r.s.Pruned {
			t.Errorf("%s: it is not pruned", flat(x))
		}
	}
	r := q.clone()
	r.comesTo(install(), 3, whole...)
	r.wants("an install", "needs a *; dev d *; pins zz *", false)
	r = q.clone()
	r.comesTo(add("n", "*", 1), 4, "a 1.0.0", "d 1.0.0", "e 1.0.0", "n 1.0.0")
	r.wants("an add for developing", "needs a *; dev d *; dev n *; pins zz *", false)
	r = q.clone()
	r.comesTo(add("d", "*", 0), 3, whole...)
	r.wants("an add of what was for developing", "needs a *; needs d *; pins zz *", true)
	// An empty project may be pruned, too.
	begun(t).doesAll(prune()).wants("nothing", "", true)
}

// P21.3: what a command does not use is not looked at.
func TestNotUsed(t *testing.T) {
	p := built(t)
	names := append(noNames(), "", "a", "b", "zz")
	ranges := append(noRanges(), "", "*", "1.0.0")
	kinds := []int{0, 1, 2, 3, -1, math.MinInt, math.MaxInt}
	for _, x := range append(asked(), wrong()...) {
		next, a := p.asEdit(x)
		for i := range len(names) {
			y := x
			y.Pack, y.N = names[i], kinds[i%len(kinds)]
			switch x.Op {
			case api.StepInstall, api.StepDedupe, api.StepPrune:
				y.Name, y.Range, y.Kind = names[i], ranges[i%len(ranges)], kinds[i%len(kinds)]
			case api.StepRemove, api.StepUpdate:
				y.Range, y.Kind = ranges[i%len(ranges)], kinds[i%len(kinds)]
			case api.StepOverride:
				y.Kind = kinds[i%len(kinds)]
			}
			if got, b := p.asEdit(y); b != a || !same(got, next) {
				t.Errorf("%s: %+v, but %s: %+v", flat(x), a, flat(y), b)
			}
		}
	}
}

// R1: great things are told soon enough, and handed back as they were.
func TestGreatStates(t *testing.T) {
	const great = 1 << 16
	p := built(t)
	long := strings.Repeat("a", 1<<24)
	for what, change := range map[string]func(s *api.State){
		"many wants":       func(s *api.State) { s.Manifest.Deps = slices.Repeat(s.Manifest.Deps, great) },
		"a great name":     func(s *api.State) { s.Manifest.Deps[0].Name = long },
		"many nodes":       func(s *api.State) { s.Graph.Nodes = slices.Repeat(s.Graph.Nodes, great) },
		"many directories": func(s *api.State) { s.Tree.Dirs = slices.Repeat(s.Tree.Dirs, great) },
		"a great package":  func(s *api.State) { s.Tree.Dirs[1].Pack.Deps = slices.Repeat(s.Manifest.Deps, great) },
	} {
		given := copied(p.s)
		change(&given)
		if got, a := plain.Do(given, p.c, install(), p.l); a != (api.Answer{Code: api.ErrArg}) || !same(got, given) {
			t.Errorf("%s: %+v", what, a)
		}
	}
	p.refuses(add(long, "*", 0), api.ErrName)
	p.refuses(add("a", strings.Repeat("*||", 1<<22), 0), api.ErrRange)
	p.refuses(update(long), api.ErrName)
	p.refuses(override("a", long), api.ErrRange)
	if got, a := plain.Do(api.State{}, nil, api.Step{}, api.Limits{}); a != (api.Answer{Code: api.ErrArg}) || !same(got, api.State{}) {
		t.Errorf("nothing at all: %+v, %s", a, flat(got))
	}
}
