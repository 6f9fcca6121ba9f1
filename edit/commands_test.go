package edit_test

import (
	"testing"

	"halyard/api"
	"halyard/manifest"
)

// P19.1: an add puts a name into the list of its Kind, with its range, and out of the two others.
func TestAddToLists(t *testing.T) {
	p := begun(t, published("a 1.0.0", "a 2.0.0", "m 1.0.0", "m 2.0.0", "z 1.0.0"))
	words := []string{"needs", "dev", "likes"}
	for from := range 3 {
		for to := range 3 {
			q := p.clone()
			q.does(add("m", "<2.0.0", from))
			q.wants("the first add", words[from]+" m <2.0.0")
			q.has("the first add", "m 1.0.0")
			q.does(add("m", ">=1.0.0", to))
			q.wants("the second add", words[to]+" m >=1.0.0")
			q.has("the second add: it is pinned", "m 1.0.0")
			q.does(add("m", "2.0.0", to))
			q.wants("the third add", words[to]+" m 2.0.0")
			q.has("the third add", "m 2.0.0")
		}
	}
	// Names stand where they belong, and others stay as they are.
	p.doesAll(add("m", "*", 0), add("z", "*", 0), add("a", "^1.0.0", 0))
	p.wants("three names", "needs a ^1.0.0; needs m *; needs z *")
	p.does(add("m", "1.0.0", 2))
	p.wants("one of them liked", "needs a ^1.0.0; needs z *; likes m 1.0.0")
	p.does(add("z", "*", 2))
	p.does(add("a", "*", 2))
	p.wants("all liked", "likes a *; likes m 1.0.0; likes z *")
	p.doesAll(add("z", "*", 1), add("a", "2.0.0", 1), add("m", "*", 1))
	p.wants("all for developing", "dev a 2.0.0; dev m *; dev z *")
}

// P19.1: a range that is added is kept as a range, whatever way it was written in.
func TestAddRanges(t *testing.T) {
	p := begun(t, published("a 1.2.3"))
	for text, want := range map[string]string{
		"*": "*", "  1.2.3  ": "1.2.3", "^1.2.0||3.0.0": ">=1.2.0 <=1.999.999 || 3.0.0", "1.2.3 || 1.2.4": ">=1.2.3 <=1.2.4", "=1.2.3 *": "1.2.3", "~1.2.0": ">=1.2.0 <=1.2.999",
	} {
		q := p.clone().doesAll(add("a", text, 0))
		q.wants(text, "needs a "+want)
		q = p.clone().doesAll(override("a", text))
		q.wants(text, "pins a "+want)
	}
}

// P19.1: overrides stay when names are added and removed.
func TestOverridesStay(t *testing.T) {
	p := begun(t, published("a 1.0.0", "a 2.0.0"))
	p.doesAll(override("a", "1.0.0"), add("a", "*", 0))
	p.wants("an add", "needs a *; pins a 1.0.0")
	p.has("an add", "a 1.0.0")
	p.does(add("a", "2.0.0", 1))
	p.wants("an add for developing", "dev a 2.0.0; pins a 1.0.0")
	p.has("an add for developing", "a 1.0.0")
	p.comesTo(remove("a"), 0)
	p.wants("a remove", "pins a 1.0.0")
}

// P19.1: a remove takes a name out of whichever list has it.
func TestRemove(t *testing.T) {
	p := begun(t, published("a 1.0.0; needs b *", "b 1.0.0", "c 1.0.0; needs b *", "d 1.0.0"))
	p.doesAll(add("a", "*", 0), add("c", "*", 1), add("d", "*", 2), override("b", "*"))
	p.wants("all", "needs a *; dev c *; likes d *; pins b *")
	q := p.clone()
	q.comesTo(remove("a"), 3, "b 1.0.0", "c 1.0.0", "d 1.0.0")
	q.wants("without a", "dev c *; likes d *; pins b *")
	q = p.clone()
	q.comesTo(remove("c"), 3, "a 1.0.0", "b 1.0.0", "d 1.0.0")
	q.wants("without c", "needs a *; likes d *; pins b *")
	q.comesTo(remove("d"), 2, "a 1.0.0", "b 1.0.0")
	q.comesTo(remove("a"), 0)
	q.wants("without all", "pins b *")
	// What Dev has is removed, though it is pruned; what is liked is removed, though it was dropped.
	q = p.clone().doesAll(prune(), remove("c"))
	q.wants("pruned, without c", "needs a *; likes d *; pins b *")
	q = p.clone().doesAll(add("zz", "*", 2), remove("zz"))
	q.wants("without what was dropped", "needs a *; dev c *; likes d *; pins b *")
	// What another one needs stays there.
	q = p.clone().doesAll(add("b", "*", 0), remove("b"))
	q.has("b is wanted no more", "a 1.0.0", "b 1.0.0", "c 1.0.0", "d 1.0.0")
}

// aged is a project that wants a, b and x, for developing c, and likes d, each of 1.0.0; then 1.1.0 of each came out.
func aged(t *testing.T) *session {
	c := published("a 1.0.0; needs x *", "b 1.0.0; needs x *", "c 1.0.0", "d 1.0.0", "x 1.0.0", "n 1.0.0")
	p := begun(t, c).doesAll(add("a", "*", 0), add("b", "*", 0), add("c", "*", 1), add("d", "*", 2))
	p.has("ahead", "a 1.0.0", "b 1.0.0", "c 1.0.0", "d 1.0.0", "x 1.0.0")
	publish(c, "a 1.1.0; needs x *", "b 1.1.0; needs x *", "c 1.1.0", "d 1.1.0", "x 1.1.0", "n 1.1.0")
	return p
}

// P19.1: pins: what a command keeps in its version, and what it does not.
func TestPins(t *testing.T) {
	p := aged(t)
	for _, x := range []api.Step{dedupe(), override("zz", "*"), add("zz", "*", 2), add("a", ">=1.0.0", 0), add("c", "*", 1), add("a", "*", 1)} {
		q := p.clone().doesAll(x)
		q.has(told(x), "a 1.0.0", "b 1.0.0", "c 1.0.0", "d 1.0.0", "x 1.0.0")
	}
	p.clone().comesTo(prune(), 5, "a 1.0.0", "b 1.0.0", "d 1.0.0", "x 1.0.0")
	p.clone().comesTo(remove("a"), 4, "b 1.0.0", "c 1.0.0", "d 1.0.0", "x 1.0.0")
	// What comes in is not pinned, nor is what an add must change.
	p.clone().comesTo(add("n", "*", 0), 7, "a 1.0.0", "b 1.0.0", "c 1.0.0", "d 1.0.0", "n 1.1.0", "x 1.0.0")
	p.clone().comesTo(add("a", ">1.0.0", 0), 6, "a 1.1.0", "b 1.0.0", "c 1.0.0", "d 1.0.0", "x 1.0.0")
	p.clone().comesTo(override("x", "1.1.0"), 6, "a 1.0.0", "b 1.0.0", "c 1.0.0", "d 1.0.0", "x 1.1.0")
	all := []string{"a 1.1.0", "b 1.1.0", "c 1.1.0", "d 1.1.0", "x 1.1.0"}
	p.clone().comesTo(install(), 6, all...)
	p.clone().comesTo(update(""), 6, all...)
	p.clone().comesTo(update("a"), 6, "a 1.1.0", "b 1.0.0", "c 1.0.0", "d 1.0.0", "x 1.0.0")
	p.clone().comesTo(update("x"), 6, "a 1.0.0", "b 1.0.0", "c 1.0.0", "d 1.0.0", "x 1.1.0")
	p.clone().comesTo(update("c"), 6, "a 1.0.0", "b 1.0.0", "c 1.1.0", "d 1.0.0", "x 1.0.0")
	p.clone().comesTo(update("d"), 6, "a 1.0.0", "b 1.0.0", "c 1.0.0", "d 1.1.0", "x 1.0.0")
	p.wants("behind all", "needs a *; needs b *; dev c *; likes d *")
}

// P19.1: an update frees all versions of its name, wherever they stand.
func TestUpdateFreesAll(t *testing.T) {
	c := published("a 1.0.0; needs x ^1.0.0", "x 1.0.0", "x 2.0.0", "y 1.0.0")
	p := begun(t, c).doesAll(add("a", "*", 0), add("x", "^2.0.0", 0), add("y", "*", 0))
	publish(c, "x 1.1.0", "x 2.1.0", "y 1.1.0", "a 1.1.0; needs x ^1.0.0")
	p.clone().comesTo(dedupe(), 4, "a 1.0.0", "a/x 1.0.0", "x 2.0.0", "y 1.0.0")
	p.clone().comesTo(update("x"), 4, "a 1.0.0", "a/x 1.1.0", "x 2.1.0", "y 1.0.0")
	p.clone().comesTo(update("y"), 4, "a 1.0.0", "a/x 1.0.0", "x 2.0.0", "y 1.1.0")
}

// lowered is a project in which x stands in a's modules, though it might stand at the root: another x stood there.
func lowered(t *testing.T) *session {
	p := begun(t, published("a 1.0.0; needs x 1.0.0", "x 1.0.0", "x 2.0.0", "d 1.0.0", "n 1.0.0"))
	p.doesAll(add("a", "*", 0), add("d", "*", 1), add("x", "2.0.0", 0))
	p.has("with both", "a 1.0.0", "a/x 1.0.0", "d 1.0.0", "x 2.0.0")
	return p
}

// P19.1: old: which commands leave directories where they stand, and which do not.
func TestOld(t *testing.T) {
	p := lowered(t)
	p.comesTo(remove("x"), 3, "a 1.0.0", "a/x 1.0.0", "d 1.0.0")
	for _, x := range []api.Step{add("a", "*", 0), add("zz", "*", 2), update(""), update("x"), update("a"), override("x", "*")} {
		q := p.clone().doesAll(x)
		q.has(told(x), "a 1.0.0", "a/x 1.0.0", "d 1.0.0")
	}
	p.clone().comesTo(prune(), 2, "a 1.0.0", "a/x 1.0.0")
	p.clone().comesTo(remove("d"), 2, "a 1.0.0", "a/x 1.0.0")
	p.clone().comesTo(add("n", "*", 0), 4, "a 1.0.0", "a/x 1.0.0", "d 1.0.0", "n 1.0.0")
	p.clone().comesTo(dedupe(), 3, "a 1.0.0", "d 1.0.0", "x 1.0.0")
	p.clone().comesTo(install(), 3, "a 1.0.0", "d 1.0.0", "x 1.0.0")
	q := p.clone().doesAll(override("x", "*"))
	q.comesTo(override("x", ""), 3, "a 1.0.0", "a/x 1.0.0", "d 1.0.0")
}

// pruning tells a fault unless a project is pruned, or is not.
func (p *session) pruning(what string, want bool) {
	p.t.Helper()
	if p.s.Pruned != want {
		p.t.Errorf("%s: Pruned is %v", what, p.s.Pruned)
	}
}

// P19.1: pruned: which commands leave out what Dev wants, of a project that is pruned and of one that is not.
func TestPruned(t *testing.T) {
	c := published("a 1.0.0", "d 1.0.0; needs e *", "e 1.0.0", "n 1.0.0")
	p := begun(t, c).doesAll(add("a", "*", 0), add("d", "*", 1), override("zz", "*"))
	whole, part := []string{"a 1.0.0", "d 1.0.0", "e 1.0.0"}, []string{"a 1.0.0"}
	p.pruning("ahead", false)
	for _, x := range []api.Step{install(), dedupe(), add("a", "*", 0), add("a", "*", 2), add("d", "*", 1), update(""), update("d"), update("a"), override("yy", "*"), override("zz", "")} {
		q := p.clone().doesAll(x)
		q.pruning(told(x), false)
		q.has(told(x), whole...)
	}
	q := p.clone()
	q.comesTo(prune(), 1, part...)
	q.pruning("a prune", true)
	if !manifest.Same(q.s.Manifest, p.s.Manifest) {
		t.Error("a prune has another manifest:", flat(q.s))
	}
	for _, x := range []api.Step{prune(), dedupe(), add("a", "*", 0), add("a", "*", 2), update(""), update("a"), override("yy", "*"), override("zz", ""), remove("d")} {
		r := q.clone().doesAll(x)
		r.pruning(told(x), true)
		r.has(told(x), part...)
	}
	r := q.clone()
	r.comesTo(add("n", "*", 0), 2, "a 1.0.0", "n 1.0.0")
	r.pruning("an add", true)
	r = q.clone()
	r.comesTo(remove("a"), 0)
	r.pruning("a remove", true)
	// All that Dev wants comes back: by an install, and by an add of that Kind.
	r = q.clone()
	r.comesTo(install(), 3, whole...)
	r.pruning("an install", false)
	r = q.clone()
	r.comesTo(add("n", "*", 1), 4, "a 1.0.0", "d 1.0.0", "e 1.0.0", "n 1.0.0")
	r.pruning("an add for developing", false)
	r = q.clone()
	r.comesTo(add("a", "*", 1), 3, whole...)
	r.pruning("an add for developing of what is there", false)
	// What is moved out of Dev is not left out.
	r = q.clone()
	r.comesTo(add("d", "*", 0), 3, whole...)
	r.pruning("an add of what was for developing", true)
}

// P19.1: of an empty project, pruned or not.
func TestEmptyProject(t *testing.T) {
	for _, pruned := range []bool{false, true} {
		p := begun(t, published(chapter()...))
		p.s.Pruned = pruned
		for _, x := range []api.Step{install(), dedupe(), prune(), update(""), override("b", "1.0.0")} {
			q := p.clone()
			q.comesTo(x, 0)
			q.pruning(told(x), x.Op == api.StepPrune || pruned && x.Op != api.StepInstall)
		}
		q := p.clone()
		q.comesTo(add("a", "*", 1), 2, "a 1.0.0", "b 1.2.0")
		q.pruning("an add for developing", false)
		p.refuses(remove("a"), api.ErrWant)
		p.refuses(update("a"), api.ErrWant)
		p.refuses(override("a", ""), api.ErrWant)
	}
}

// P19.1: an override takes the place of all ranges of its name; without one they are what they were.
func TestOverride(t *testing.T) {
	p := begun(t, published("a 1.0.0; needs b ^1.0.0", "b 1.0.0", "b 1.2.0", "b 2.0.0", "p 1.0.0; beside b 2.0.0"))
	p.doesAll(add("a", "*", 0), add("b", "2.0.0", 0), add("p", "*", 0))
	p.has("ahead", "a 1.0.0", "a/b 1.2.0", "b 2.0.0", "p 1.0.0")
	p.does(override("b", "1.0.0"))
	p.has("b 1.0.0 for all", "a 1.0.0", "b 1.0.0", "p 1.0.0")
	p.wants("b 1.0.0 for all", "needs a *; needs b 2.0.0; needs p *; pins b 1.0.0")
	p.does(override("b", "2.0.0"))
	p.has("b 2.0.0 for all", "a 1.0.0", "b 2.0.0", "p 1.0.0")
	p.wants("b 2.0.0 for all", "needs a *; needs b 2.0.0; needs p *; pins b 2.0.0")
	p.does(override("a", "*"))
	p.does(override("c", "3.0.0"))
	p.wants("three of them", "needs a *; needs b 2.0.0; needs p *; pins a *; pins b 2.0.0; pins c 3.0.0")
	p.does(override("b", ""))
	p.wants("without b's", "needs a *; needs b 2.0.0; needs p *; pins a *; pins c 3.0.0")
	p.has("without b's", "a 1.0.0", "a/b 1.2.0", "b 2.0.0", "p 1.0.0")
}
