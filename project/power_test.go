package project_test

import (
	"slices"
	"testing"

	"halyard/api"
	"halyard/catalog"
	"halyard/disk"
	"halyard/project"
)

// asked is a step of a project, and what it comes to: the states ahead of it and behind it, their files, and its raw writes.
type asked struct {
	t             *testing.T
	c             *catalog.Catalog
	l             api.Limits
	x             api.Step
	before, after api.State
	from, to      []api.File
	raws          []string
}

// askedOf is a step of a project, as it stands.
func askedOf(p *session, x api.Step) asked {
	p.t.Helper()
	next, _ := p.next(x)
	from, to := filesOf(p.t, p.now), filesOf(p.t, next)
	return asked{t: p.t, c: p.c, l: p.l, x: x, before: p.now, after: next, from: from, to: to, raws: modelRaws(from, to)}
}

// done is the disk behind a Do in which the power went behind so many raw writes, and came back.
func (k asked) done(cut int) *disk.Disk {
	k.t.Helper()
	d := load(k.t, k.from)
	p, e := project.Open(d, k.c, k.l)
	if e != api.OK {
		k.t.Fatalf("Open: error %d of %s", e, flat(k.from))
	}
	d.Cut(cut)
	a := p.Do(k.x)
	// With the power off ahead of all, nothing is asked at all; with no raw write to come, or the last one done, all is well.
	isDown := cut == 0 || cut < len(k.raws)
	if isDown != (a == api.Answer{Code: api.ErrDown}) || !slices.Equal(words(d.Raws()), k.raws[:min(cut, len(k.raws))]) {
		k.t.Fatalf("%s of %s, cut behind %d: %+v, %s", flat(k.x), flat(k.before), cut, a, words(d.Raws()))
	}
	want := k.before
	if !isDown {
		want = k.after
	}
	if !same(p.State(), want) {
		k.t.Fatalf("%s of %s, cut behind %d: the state is %s", flat(k.x), flat(k.before), cut, flat(p.State()))
	}
	d.Up()
	return d
}

// again is a disk behind an Open of those files in which the power went behind so many raw writes, and came back; and whether the project was opened.
func (k asked) again(l []api.File, cut int) (*disk.Disk, bool) {
	k.t.Helper()
	d := load(k.t, l)
	d.Cut(cut)
	p, e := project.Open(d, k.c, k.l)
	if e != api.OK && (e != api.ErrDown || p != nil || len(d.Raws()) != cut) {
		k.t.Fatalf("%s of %s: Open, cut behind %d: error %d, %s", flat(k.x), flat(k.before), cut, e, words(d.Raws()))
	}
	k.touches(d.Raws())
	d.Up()
	return d, e == api.OK
}

// touches tells a fault if a raw write is of a path, but the journal's, at which there is the same ahead of the step and behind it.
func (k asked) touches(l []api.Raw) {
	k.t.Helper()
	at := func(l []api.File, path string) api.File {
		for _, f := range l {
			if f.Path == path {
				return f
			}
		}
		return api.File{}
	}
	for _, r := range l {
		if !isJournal(r.Path) && at(k.from, r.Path) == at(k.to, r.Path) || r.To != "" && !isJournal(r.To) {
			k.t.Fatalf("%s of %s: a raw write %s", flat(k.x), flat(k.before), flat(r))
		}
	}
}

// opened tells a fault unless the project is opened at last: it has the state behind the step, if three raw writes or more of the step were done, and else the one ahead of it; the disk has just its files, and the project goes on.
func (k asked) opened(l []api.File, cuts ...int) {
	k.t.Helper()
	d := load(k.t, l)
	p, e := project.Open(d, k.c, k.l)
	state, files := k.before, k.from
	if min(cuts[0], len(k.raws)) >= 3 {
		state, files = k.after, k.to
	}
	if e != api.OK || !same(p.State(), state) || !slices.Equal(d.All(), files) {
		k.t.Fatalf("%s of %s, cut behind %d: error %d, %s", flat(k.x), flat(k.before), cuts, e, flat(d.All()))
	}
	k.touches(d.Raws())
}

// everyCut lets the power go behind every number of raw writes of the Do, of the Open behind it, and of the one behind that.
func (k asked) everyCut() {
	k.t.Helper()
	for first := range len(k.raws) + 2 {
		one := k.done(first).All()
		k.opened(one, first)
		for second, ended := 0, false; !ended; second++ {
			var d *disk.Disk
			d, ended = k.again(one, second)
			two := d.All()
			k.opened(two, first, second)
			for third, over := 0, false; !over; third++ {
				d, over = k.again(two, third)
				k.opened(d.All(), first, second, third)
			}
		}
	}
}

// P20.3, P20.4: the power goes in a Do of each kind, and in two Opens behind it, behind every number of raw writes.
func TestEveryCut(t *testing.T) {
	p := built(t)
	writing := 0
	for _, x := range some() {
		k := askedOf(p, x)
		k.everyCut()
		if len(k.raws) > 0 {
			writing++
		}
	}
	if writing < 6 {
		t.Error("too few that write:", writing)
	}
}

// P20.3, P20.4: from the empty project, and to it.
func TestEveryCutOfEmpty(t *testing.T) {
	p := begun(t, published(chapter()...))
	askedOf(p, add("a", "*", 0)).everyCut()
	askedOf(p, prune()).everyCut()
	askedOf(p, override("b", "*")).everyCut()
	askedOf(p, install()).everyCut()
	p.does(add("a", "*", 0))
	askedOf(p, remove("a")).everyCut()
	p.doesAll(remove("a"), prune())
	askedOf(p, install()).everyCut()
}

// P20.3, P20.4: packages that go and come, inside of others too.
func TestEveryCutOfMoves(t *testing.T) {
	p := begun(t, published(whole()...))
	p.doesAll(add("a", "*", 0), add("c", "*", 0), add("b", "^1.0.0", 0), add("p", "*", 0), add("b", "*", 0))
	askedOf(p, remove("p")).everyCut()
	p.does(remove("p"))
	askedOf(p, override("b", "1.0.0")).everyCut()
}

// P20.3, P20.4: many projects; the power goes in each Do, and in Opens behind it as often as one likes.
func TestOftenCut(t *testing.T) {
	s := source(1)
	writing, ahead, behind := 0, 0, 0
	s.walks(t, 80, func(p *session, x api.Step) {
		k := askedOf(p, x)
		cuts := []int{s.below(len(k.raws) + 2)}
		if s.below(2) == 0 {
			cuts[0] = s.below(5)
		}
		l := k.done(cuts[0]).All()
		for range s.below(12) {
			cuts = append(cuts, pick(&s, 0, 1, 1, 2, s.below(6)))
			d, _ := k.again(l, cuts[len(cuts)-1])
			l = d.All()
		}
		k.opened(l, cuts...)
		switch {
		case len(k.raws) == 0:
		case cuts[0] < 3:
			ahead++
		default:
			behind++
		}
		if len(k.raws) > 0 {
			writing++
		}
		p.asks(x)
	})
	if writing < 300 || ahead < 100 || behind < 100 {
		t.Error("too few:", writing, ahead, behind)
	}
}

// P20.3: on one and the same disk, with one catalog, through a whole life of a project: the power goes at any time, and the project is opened anew.
func TestLife(t *testing.T) {
	s := source(2)
	lost := 0
	s.walks(t, 120, func(p *session, x api.Step) {
		k := askedOf(p, x)
		if s.below(2) == 0 {
			p.asks(x)
			return
		}
		cut := s.below(len(k.raws) + 3)
		p.d.Clear()
		p.d.Cut(cut)
		p.p.Do(x)
		for range s.below(5) {
			p.d.Up()
			p.d.Cut(s.below(4))
			project.Open(p.d, p.c, p.l)
		}
		p.d.Up()
		// Without raw writes a state may be another one all the same only if its files are.
		if min(cut, len(k.raws)) >= 3 {
			p.now = k.after
		}
		k.touches(p.d.Raws())
		p.opens()
		lost++
	})
	if lost < 500 {
		t.Error("too few:", lost)
	}
}

// P20.3: one raw write an Open comes to an end, too, and does in all just what the Do asked for.
func TestOneByOne(t *testing.T) {
	p := built(t)
	k := askedOf(p, install())
	d := k.done(3)
	for count := 0; ; count++ {
		d.Cut(1)
		_, e := project.Open(d, k.c, k.l)
		d.Up()
		if e == api.OK {
			break
		}
		if count > len(k.raws) {
			t.Fatal("there is no end:", words(d.Raws()))
		}
	}
	if got := words(d.Raws()); !slices.Equal(got, k.raws) || !slices.Equal(d.All(), k.to) {
		t.Errorf("%s, not %s", got, k.raws)
	}
}

// P20.2, P20.4, P20.5: many projects, each step held against edit, and against the raw writes that it must have.
func TestManyProjects(t *testing.T) {
	s := source(3)
	codes, silent := map[api.Errno]int{}, 0
	s.walks(t, 300, func(p *session, x api.Step) {
		k := askedOf(p, x)
		a := p.asks(x)
		k.touches(p.d.Raws())
		codes[a.Code]++
		if a.Code != api.OK && len(p.d.Raws()) != 0 {
			t.Fatalf("%s: refused, and written", flat(x))
		}
		if a.Code == api.OK && same(k.before, k.after) {
			silent++
			if len(p.d.Raws()) != 0 {
				t.Fatalf("%s: the same, and written", flat(x))
			}
		}
		if s.below(4) == 0 {
			p.opens()
		}
	})
	if codes[api.OK] < 1000 || codes[api.ErrUnsat] < 100 || codes[api.ErrWant] < 100 || silent < 200 || len(codes) < 11 {
		t.Error("too few of a kind:", codes, silent)
	}
}
