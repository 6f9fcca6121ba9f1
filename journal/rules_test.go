package journal_test

import (
	"math"
	"slices"
	"strconv"
	"strings"
	"testing"

	"halyard/api"
	"halyard/disk"
	"halyard/journal"
	"halyard/plan"
)

// R1, R2: every call ends, and none panics, at all arguments; what is refused changes nothing.
func TestEveryCallEnds(t *testing.T) {
	s := source(6)
	odd := []string{"", "/", "a", "/A", "//", "/a/", "/journal", "/journal/plan", "/a", "/a/b", "/b", "\xff", strings.Repeat("/a", 1<<12), longPath(api.MaxDiskPath), longPath(api.MaxDiskPath + 1)}
	for range 3000 {
		var l []api.Deed
		for range 1 + s.below(3) {
			l = append(l, api.Deed{Kind: pick(&s, 0, 1, 2, 3, 4, 5, -1, math.MinInt, math.MaxInt), Path: pick(&s, odd...), Data: pick(&s, "", "", "x", "\x00")})
		}
		before := s.some()
		if plan.Check(l) != api.OK {
			refuses(t, flat(l), before, commit(l...), api.ErrPlan)
			continue
		}
		commitsAsModel(t, before, l)
	}
}

// R1: a disk that was never made has no power.
func TestZeroDisk(t *testing.T) {
	answers(t, "Commit", journal.Commit(&disk.Disk{}, deeds(mkdir("/a"))), api.ErrDown)
	answers(t, "Recover", journal.Recover(&disk.Disk{}), api.ErrDown)
}

// R1: great plans are done soon enough, and great texts read.
func TestGreat(t *testing.T) {
	const count = 1500
	var coming, going []api.Deed
	for i := range count {
		path := "/d" + strconv.Itoa(i)
		coming = append(coming, mkdir(path), put(path+"/f", path))
		going = append(going, unlink(path+"/f"), rmdir(path))
	}
	byKind := func(a, b api.Deed) int { return a.Kind - b.Kind }
	slices.SortStableFunc(coming, byKind)
	slices.SortStableFunc(going, byKind)
	d := disk.New()
	answers(t, "many come", journal.Commit(d, coming), api.OK)
	if len(d.All()) != 2*count || len(d.Raws()) != 2*count+5 {
		t.Error(len(d.All()), len(d.Raws()))
	}
	d.Cut(3)
	answers(t, "many go", journal.Commit(d, going), api.ErrDown)
	d.Up()
	answers(t, "many go", journal.Recover(d), api.OK)
	if len(d.All()) != 0 {
		t.Error(len(d.All()))
	}
	big := strings.Repeat("\xffx", 1<<20)
	d.Cut(3)
	answers(t, "many bytes", journal.Commit(d, deeds(put("/f", big))), api.ErrDown)
	d.Up()
	answers(t, "many bytes", journal.Recover(d), api.OK)
	if got, e := d.Read("/f"); e != api.OK || got != big {
		t.Error(len(got), e)
	}
}

// P18.1, P18.3: paths as long, and with as many parts, as a disk takes them.
func TestLongPaths(t *testing.T) {
	for _, path := range []string{longPath(api.MaxDiskPath - 1), longPath(api.MaxDiskPath)} {
		p := plannedOf(t, above(path), put(path, "deep"))
		for cut := range 7 {
			p.allOrNone(t, p.begun(t, cut), cut)
		}
		p = plannedOf(t, with(above(path), file(path, "deep")), unlink(path), mkdir(path))
		for cut := range 8 {
			p.allOrNone(t, p.begun(t, cut), cut)
		}
	}
	many := strings.Repeat("/a", 300)
	var l []api.Deed
	for _, f := range append(above(many), dir(many)) {
		l = append(l, mkdir(f.Path))
	}
	p := plannedOf(t, nil, l...)
	for _, cut := range []int{2, 3, 150, 303, 304, 305} {
		p.allOrNone(t, p.begun(t, cut), cut)
	}
}

// roomy is deeds in a list of their own, with spare room behind them that is marked.
func roomy(l []api.Deed) []api.Deed {
	out := append(make([]api.Deed, 0, len(l)+3), l...)
	for i := range 3 {
		whole(out)[len(out)+i] = put("/mark", "mark")
	}
	return out
}

// whole is a list with its spare room.
func whole(l []api.Deed) []api.Deed { return l[:cap(l)] }

// R4: what is handed in stays as it was, its spare room too: be it done, refused, or cut off.
func TestHandedInStays(t *testing.T) {
	s := source(7)
	stays := func(before []api.File, l []api.Deed, cut int) {
		t.Helper()
		l = roomy(l)
		want := slices.Clone(whole(l))
		d := load(t, before)
		d.Cut(cut)
		journal.Commit(d, l)
		d.Up()
		journal.Recover(d)
		if !slices.Equal(whole(l), want) {
			t.Fatalf("what was handed in is changed: %s, not %s", flat(whole(l)), flat(want))
		}
	}
	for _, p := range s.many(t, 100) {
		for _, cut := range []int{0, 1, 2, 3, 4, 5, 100} {
			stays(p.before, p.deeds, cut)
			stays(p.after, p.deeds, cut)
			turned := slices.Clone(p.deeds)
			slices.Reverse(turned)
			stays(p.before, turned, cut)
			stays(with(p.before, dir("/journal")), p.deeds, cut)
		}
	}
}

// R4: deeds are not kept: whatever becomes of the list, a Recover does what was committed.
func TestNotKept(t *testing.T) {
	s := source(8)
	for _, p := range s.many(t, 200) {
		for cut := range 6 {
			l := roomy(p.deeds)
			d := load(t, p.before)
			d.Cut(cut)
			if journal.Commit(d, l) == api.OK {
				cut = 5
			}
			for i := range whole(l) {
				whole(l)[i] = put("/spoilt", "spoilt")
			}
			d.Up()
			p.allOrNone(t, d, cut)
		}
	}
}

// R5: what comes of a call hangs on the files and the deeds alone: not on what was done ahead, nor on spare room, nor on the order in which a disk was made.
func TestSameAgain(t *testing.T) {
	s := source(9)
	for _, p := range s.many(t, 100) {
		turned := slices.Clone(p.before)
		slices.Reverse(turned)
		used := load(t, p.before)
		journal.Commit(used, deeds(mkdir("/zz"), put("/zz/f", "x")))
		journal.Commit(used, deeds(unlink("/zz/f"), rmdir("/zz")))
		journal.Commit(used, deeds(unlink("/zz")))
		used.Clear()
		one, other := load(t, p.before), load(t, turned)
		e, f, g := journal.Commit(one, p.deeds), journal.Commit(other, roomy(p.deeds)), journal.Commit(used, p.deeds)
		if e != f || e != g || !slices.Equal(one.Raws(), other.Raws()) || !slices.Equal(one.Raws(), used.Raws()) || !slices.Equal(one.All(), other.All()) || !slices.Equal(one.All(), used.All()) {
			t.Fatalf("%s: %s, %s and %s", flat(p), flat(words(one.Raws())), flat(words(other.Raws())), flat(words(used.Raws())))
		}
	}
}

// The numbers of the errors, kinds and raw writes that this layer tells.
func TestNumbers(t *testing.T) {
	if got := []api.Errno{api.OK, api.ErrArg, api.ErrThere, api.ErrAbsent, api.ErrKind, api.ErrUsed, api.ErrDown, api.ErrPlan}; !slices.Equal(got, []api.Errno{0, 1, 11, 12, 13, 14, 15, 44}) {
		t.Error(got)
	}
	if got := []int{api.DeedUnlink, api.DeedRmdir, api.DeedMkdir, api.DeedPut}; !slices.Equal(got, []int{1, 2, 3, 4}) {
		t.Error(got)
	}
	if got := []int{api.RawMkdir, api.RawWrite, api.RawRename, api.RawRemove}; !slices.Equal(got, []int{1, 2, 3, 4}) {
		t.Error(got)
	}
}
