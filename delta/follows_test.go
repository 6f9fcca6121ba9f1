package delta_test

import (
	"slices"
	"strings"
	"testing"

	"halyard/api"
	"halyard/disk"
	"halyard/plan"
)

// follows tells a fault unless all holds of deeds that follows of them: P16.2 to P16.4.
func follows(t *testing.T, before, after []api.File, deeds []api.Deed) {
	t.Helper()
	does(t, before, after, deeds)
	least(t, before, after, deeds)
	isPlan(t, deeds)
}

// does tells a fault unless each deed is possible on a disk with before's files, and in the end there are just after's (P16.2).
func does(t *testing.T, before, after []api.File, deeds []api.Deed) {
	t.Helper()
	d := load(t, before)
	for i, deed := range deeds {
		if !possible(d, deed) {
			t.Errorf("deed %d of %s is not possible; before %s, after %s", i, flat(deeds), flat(before), flat(after))
			return
		}
	}
	if got := d.All(); !slices.Equal(got, byPath(after)) {
		t.Errorf("%s come to %s, not to %s", flat(deeds), flat(got), flat(after))
	}
	if len(d.Raws()) != len(deeds) {
		t.Errorf("%d raw writes for %d deeds", len(d.Raws()), len(deeds))
	}
}

// possible does a deed, and tells whether what it asks for was there, and it could be done.
func possible(d *disk.Disk, deed api.Deed) bool {
	kind := d.Kind(deed.Path)
	switch deed.Kind {
	case api.DeedUnlink:
		return kind == 1 && d.Remove(deed.Path) == api.OK
	case api.DeedRmdir:
		return kind == 2 && d.Remove(deed.Path) == api.OK
	case api.DeedMkdir:
		return kind == 0 && d.Mkdir(deed.Path) == api.OK
	case api.DeedPut:
		return kind != 2 && d.Write(deed.Path, deed.Data) == api.OK
	}
	return false
}

// least tells a fault if a deed is of a path at which before and after have the same (P16.3).
func least(t *testing.T, before, after []api.File, deeds []api.Deed) {
	t.Helper()
	old, now := map[string]api.File{}, map[string]api.File{}
	for _, f := range before {
		old[f.Path] = f
	}
	for _, f := range after {
		now[f.Path] = f
	}
	for _, deed := range deeds {
		if old[deed.Path] == now[deed.Path] {
			t.Errorf("%s, and the same is there before and after: %+v", flat(deed), old[deed.Path])
		}
	}
}

// isPlan tells a fault unless deeds are a plan, for package plan and by chapter 17's words (P16.4).
func isPlan(t *testing.T, deeds []api.Deed) {
	t.Helper()
	if e := plan.Check(deeds); e != api.OK {
		t.Errorf("%s are no plan: error %d", flat(deeds), e)
	}
	met := map[string][]int{}
	last := api.DeedUnlink
	for _, deed := range deeds {
		if deed.Kind < last || deed.Kind > api.DeedPut {
			t.Errorf("the kind of %s behind kind %d", flat(deed), last)
		}
		last = deed.Kind
		if _, e := disk.New().Read(deed.Path); e == api.ErrPath || deed.Path == "/" || deed.Path == "/journal" || strings.HasPrefix(deed.Path, "/journal/") {
			t.Errorf("the path of %s", flat(deed))
		}
		if deed.Data != "" && deed.Kind != api.DeedPut {
			t.Errorf("the Data of %s", flat(deed))
		}
		met[deed.Path] = append(met[deed.Path], deed.Kind)
	}
	for path, kinds := range met {
		twice := slices.Equal(kinds, []int{api.DeedUnlink, api.DeedMkdir}) || slices.Equal(kinds, []int{api.DeedRmdir, api.DeedPut})
		if len(kinds) > 1 && !twice {
			t.Errorf("%s stands with the kinds %v", path, kinds)
		}
	}
}

// P16.2 to P16.4, on all pairs of sets of a few paths.
func TestFollowsOfAllPairs(t *testing.T) {
	sets := small()
	for _, before := range sets {
		for _, after := range sets {
			follows(t, before, after, deedsOf(t, before, after))
			if t.Failed() {
				return
			}
		}
	}
}

// P16.2 to P16.4, on pairs of any sets.
func TestFollowsOfManyPairs(t *testing.T) {
	s := source(5)
	for _, p := range s.pairs(1000) {
		follows(t, p.before, p.after, deedsOf(t, p.before, p.after))
		if t.Failed() {
			return
		}
	}
}

// P16.2: from set to set, and at last to none, on one disk.
func TestOneBehindTheOther(t *testing.T) {
	s := source(6)
	for range 40 {
		d, l := disk.New(), []api.File(nil)
		for range 20 {
			next := s.near(l)
			if s.below(3) == 0 {
				next = s.some()
			}
			for _, deed := range append(deedsOf(t, l, next), deedsOf(t, next, next)...) {
				if !possible(d, deed) {
					t.Fatalf("%s is not possible", flat(deed))
				}
			}
			if got := d.All(); !slices.Equal(got, byPath(next)) {
				t.Fatalf("%s, not %s", flat(got), flat(next))
			}
			l = next
		}
		for _, deed := range deedsOf(t, d.All(), nil) {
			if !possible(d, deed) {
				t.Fatalf("%s is not possible", flat(deed))
			}
		}
		if len(d.All()) != 0 {
			t.Fatalf("%s is left", flat(d.All()))
		}
	}
}

// P16.3: each path at which before and after differ has a deed, one deed, or two where a file and a directory change places; all others have none.
func TestLeast(t *testing.T) {
	s := source(7)
	for _, p := range s.pairs(500) {
		count := map[string]int{}
		for _, deed := range deedsOf(t, p.before, p.after) {
			count[deed.Path]++
		}
		for _, f := range slices.Concat(p.before, p.after) {
			was, old := at(p.before, f.Path)
			is, now := at(p.after, f.Path)
			want := 1
			if old == now {
				want = 0
			} else if was != 0 && is != 0 && was != is {
				want = 2
			}
			if count[f.Path] != want {
				t.Fatalf("%d deeds of %s, not %d; before %s, after %s", count[f.Path], f.Path, want, flat(p.before), flat(p.after))
			}
		}
	}
}

// P16.4: as plans deeds have texts, which are read as the same deeds.
func TestTextsOfDeeds(t *testing.T) {
	s := source(15)
	for _, p := range s.pairs(300) {
		deeds := deedsOf(t, p.before, p.after)
		text, e := plan.Print(deeds)
		if e != api.OK {
			t.Fatalf("Print(%s): error %d", flat(deeds), e)
		}
		if l, e := plan.Parse(text); e != api.OK || !slices.Equal(l, deeds) {
			t.Fatalf("Parse(%s): %s, error %d, not %s", flat(text), flat(l), e, flat(deeds))
		}
	}
}

// P16.4: done from the beginning once more, however far they were done, they come to the same.
func TestDoneAgain(t *testing.T) {
	s := source(8)
	for _, p := range s.pairs(100) {
		deeds := deedsOf(t, p.before, p.after)
		for far := range len(deeds) + 1 {
			d := load(t, p.before)
			for _, deed := range slices.Concat(deeds[:far], deeds, deeds[:far], deeds) {
				if e := doAgain(d, deed); e != api.OK {
					t.Fatalf("%s behind %d: error %d", flat(deed), far, e)
				}
			}
			if got := d.All(); !slices.Equal(got, byPath(p.after)) {
				t.Fatalf("behind %d of %s: %s, not %s", far, flat(deeds), flat(got), flat(p.after))
			}
		}
	}
}

// doAgain does a deed as a journal does it: where it was done already, nothing.
func doAgain(d *disk.Disk, deed api.Deed) api.Errno {
	kind := d.Kind(deed.Path)
	switch {
	case deed.Kind == api.DeedUnlink && kind == 1, deed.Kind == api.DeedRmdir && kind == 2:
		return d.Remove(deed.Path)
	case deed.Kind == api.DeedMkdir && kind == 0:
		return d.Mkdir(deed.Path)
	case deed.Kind == api.DeedPut:
		if data, e := d.Read(deed.Path); e != api.OK || data != deed.Data {
			return d.Write(deed.Path, deed.Data)
		}
	}
	return api.OK
}
