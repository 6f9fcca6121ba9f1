package journal_test

import (
	"slices"
	"strings"
	"testing"

	"halyard/api"
	"halyard/delta"
	"halyard/disk"
	"halyard/journal"
)

// planned is files, deeds that can be done on a disk with them, and the files behind that.
type planned struct {
	before []api.File
	deeds  []api.Deed
	after  []api.File
}

// plannedOf is deeds that must be such as can be done.
func plannedOf(t *testing.T, before []api.File, l ...api.Deed) planned {
	t.Helper()
	after, ok := modelCan(before, l)
	if !ok {
		t.Fatalf("%s can't be done on %s", flat(l), flat(before))
	}
	return planned{byPath(before), l, after}
}

// begun is a disk on which the power went behind so many raw writes of the Commit, and came back.
func (p planned) begun(t *testing.T, cut int) *disk.Disk {
	t.Helper()
	d := load(t, p.before)
	d.Cut(cut)
	e := journal.Commit(d, p.deeds)
	if count := len(d.Raws()); count != cut && e != api.OK || e != api.OK && e != api.ErrDown {
		t.Fatalf("%s: cut behind %d: error %d behind %d raw writes", flat(p), cut, e, count)
	}
	d.Up()
	return d
}

// recovers lets the power go behind so many raw writes of a Recover, and come back; it tells whether the Recover answered OK.
func recovers(t *testing.T, d *disk.Disk, cut int) bool {
	t.Helper()
	count := len(d.Raws())
	d.Cut(cut)
	e := journal.Recover(d)
	if count = len(d.Raws()) - count; e != api.OK && (e != api.ErrDown || count != cut) {
		t.Fatalf("Recover, cut behind %d: error %d behind %d raw writes", cut, e, count)
	}
	d.Up()
	return e == api.OK
}

// want is the files that there must be at last, by how many raw writes of the Commit were done (P18.3).
func (p planned) want(done int) []api.File {
	if done < 3 {
		return p.before
	}
	return p.after
}

// allOrNone tells a fault unless a Recover answers OK and the files are those that there must be (P18.3), and only the journal and the deeds' paths were written (P18.4).
func (p planned) allOrNone(t *testing.T, d *disk.Disk, cuts ...int) {
	t.Helper()
	e := journal.Recover(d)
	if e != api.OK || !slices.Equal(d.All(), p.want(cuts[0])) || d.Kind("/journal") != 0 {
		t.Fatalf("%s: cut behind %d: error %d, %s", flat(p), cuts, e, flat(d.All()))
	}
	p.quiet(t, d.Raws())
	done := len(d.Raws())
	if e := journal.Recover(d); e != api.OK || len(d.Raws()) != done {
		t.Fatalf("%s: cut behind %d: Recover once more: error %d, %s", flat(p), cuts, e, flat(words(d.Raws())))
	}
}

// quiet tells a fault unless each raw write is of the journal, or of a deed (P18.4).
func (p planned) quiet(t *testing.T, l []api.Raw) {
	t.Helper()
	for _, r := range l {
		for _, path := range []string{r.Path, r.To} {
			ofDeed := slices.ContainsFunc(p.deeds, func(deed api.Deed) bool { return deed.Path == path })
			if path != "" && path != "/journal" && !strings.HasPrefix(path, "/journal/") && !ofDeed {
				t.Fatalf("%s: a raw write %s", flat(p), flat(r))
			}
		}
	}
}

// everyCut lets the power go behind every number of raw writes of the Commit, of the Recover behind it, and of the one behind that.
func (p planned) everyCut(t *testing.T) {
	t.Helper()
	_, moments := modelCommit(p.before, p.deeds)
	for first := range len(moments) + 2 {
		for second, ended := 0, false; !ended; second++ {
			d := p.begun(t, first)
			ended = recovers(t, d, second)
			p.allOrNone(t, d, first, second)
			for third, over := 0, false; !over; third++ {
				d := p.begun(t, first)
				recovers(t, d, second)
				over = recovers(t, d, third)
				p.allOrNone(t, d, first, second, third)
			}
		}
	}
}

// P18.3, P18.4: the power goes behind every number of raw writes; deeds of each kind, and such as meet at a path.
func TestEveryCut(t *testing.T) {
	plannedOf(t, files(file("/a", "x")), put("/a", "y"), put("/b", "z")).everyCut(t)
	plannedOf(t, nil, put("/a", "")).everyCut(t)
	plannedOf(t, files(file("/a", "x")), put("/a", "x")).everyCut(t)
	plannedOf(t, files(file("/a", "x")), unlink("/a")).everyCut(t)
	plannedOf(t, files(dir("/a")), rmdir("/a")).everyCut(t)
	plannedOf(t, nil, mkdir("/a")).everyCut(t)
	plannedOf(t, files(file("/a", "x")), unlink("/a"), mkdir("/a"), mkdir("/a/b"), put("/a/b/c", "y")).everyCut(t)
	plannedOf(t, files(dir("/a"), file("/a/f", "x"), dir("/a/b")), unlink("/a/f"), rmdir("/a/b"), rmdir("/a"), put("/a", "y")).everyCut(t)
	plannedOf(t, files(file("/a", "1"), dir("/b"), file("/b/f", "2"), file("/k", "k"), dir("/l")), unlink("/b/f"), unlink("/a"), rmdir("/b"), mkdir("/a"), put("/a/f", "2"), put("/b", "1"), put("/k", "k")).everyCut(t)
	plannedOf(t, files(file("/journals", "x"), dir("/journal-"), file("/journal-/plan", "plan\n")), unlink("/journals"), unlink("/journal-/plan"), rmdir("/journal-"), mkdir("/journals"), put("/journals/plan", "x")).everyCut(t)
}

// P18.3, P18.4: all plans of up to three of a few deeds that can be done on small disks.
func TestEveryCutOfAll(t *testing.T) {
	disks, count := smallDisks(), 0
	for _, l := range smallPlans(3) {
		for _, before := range disks {
			if after, ok := modelCan(before, l); ok && len(l) > 0 {
				count++
				planned{byPath(before), l, after}.everyCut(t)
			}
		}
	}
	if count < 200 {
		t.Error("too few:", count)
	}
}

// P18.3: no deeds at all.
func TestEveryCutOfNone(t *testing.T) {
	p := plannedOf(t, files(file("/a", "x")))
	for cut := 1; cut < 4; cut++ {
		d := p.begun(t, cut)
		p.allOrNone(t, d, 0)
		if len(d.Raws()) != 0 {
			t.Error(words(d.Raws()))
		}
	}
}

// many is such plans as a package manager makes: what makes one set of files another one.
func (s *source) many(t *testing.T, count int) []planned {
	t.Helper()
	var l []planned
	for len(l) < count {
		before, after := s.some(), s.some()
		deeds, e := delta.Deeds(before, after)
		if e != api.OK {
			t.Fatal(flat(before), flat(after), e)
		}
		if len(deeds) == 0 {
			continue
		}
		p := plannedOf(t, before, deeds...)
		if !slices.Equal(p.after, byPath(after)) {
			t.Fatal(flat(p), flat(after))
		}
		l = append(l, p)
	}
	return l
}

// P18.1 to P18.3: what makes one set of files another one, held against the model; behind each number of raw writes of the Commit the Recover, too.
func TestManySets(t *testing.T) {
	s := source(2)
	for _, p := range s.many(t, 300) {
		answer, moments := modelCommit(p.before, p.deeds)
		asModel(t, p.before, commit(p.deeds...), answer, moments)
		for cut := range len(moments) + 1 {
			_, _, then := behind(p.before, answer, moments, cut)
			if e := recoversAsModel(t, then); e != api.OK {
				t.Fatalf("%s: cut behind %d: error %d", flat(p), cut, e)
			}
		}
	}
}

// P18.3: the power goes as often as one likes.
func TestOftenCut(t *testing.T) {
	s := source(3)
	for _, p := range s.many(t, 300) {
		_, moments := modelCommit(p.before, p.deeds)
		cuts := []int{s.below(len(moments) + 1)}
		d := p.begun(t, cuts[0])
		for range s.below(30) {
			cuts = append(cuts, pick(&s, 0, 0, 1, 1, 2, s.below(5)))
			recovers(t, d, cuts[len(cuts)-1])
		}
		p.allOrNone(t, d, cuts...)
	}
}

// P18.3: one raw write a Recover comes to an end, too: no raw write is done that was done already.
func TestOneByOne(t *testing.T) {
	s := source(4)
	for _, p := range s.many(t, 200) {
		_, moments := modelCommit(p.before, p.deeds)
		d := p.begun(t, 3)
		count := 0
		for !recovers(t, d, 1) {
			if count++; count > len(moments) {
				t.Fatalf("%s: there is no end: %s", flat(p), flat(words(d.Raws())))
			}
		}
		p.allOrNone(t, d, 3)
		var want []api.Raw
		for _, m := range moments {
			want = append(want, m.raw)
		}
		if !slices.Equal(d.Raws(), want) {
			t.Fatalf("%s: %s, not %s", flat(p), flat(words(d.Raws())), flat(words(want)))
		}
	}
}

// P18.3: till a Recover answers OK no other Commit is taken, and what is there stays.
func TestCommitAheadOfRecover(t *testing.T) {
	p := plannedOf(t, files(file("/a", "x")), put("/a", "y"), put("/b", "z"))
	for cut := 1; cut < 7; cut++ {
		d := p.begun(t, cut)
		there := d.All()
		for _, l := range [][]api.Deed{nil, deeds(mkdir("/c")), p.deeds} {
			answers(t, "another Commit", journal.Commit(d, l), api.ErrThere)
		}
		if !slices.Equal(d.All(), there) || len(d.Raws()) != cut {
			t.Errorf("cut behind %d: %s", cut, flat(d.All()))
		}
		p.allOrNone(t, d, cut)
		answers(t, "now another Commit", journal.Commit(d, deeds(mkdir("/c"))), api.OK)
	}
}

// P18.4: at a path at which there is the same ahead of what delta tells and behind it there is no raw write.
func TestQuiet(t *testing.T) {
	s := source(5)
	for _, p := range s.many(t, 200) {
		d := p.begun(t, 1<<20)
		p.quiet(t, d.Raws())
		was, is := modelOf(p.before), modelOf(p.after)
		for _, r := range d.Raws() {
			if !strings.HasPrefix(r.Path, "/journal") && was.now[r.Path] == is.now[r.Path] {
				t.Fatalf("%s: a raw write %s", flat(p), flat(r))
			}
		}
	}
}
