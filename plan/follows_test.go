package plan_test

import (
	"slices"
	"strings"
	"testing"

	"halyard/api"
	"halyard/disk"
	"halyard/plan"
)

// Parse of Print is the plan.
func TestParseOfPrint(t *testing.T) {
	s := source(3)
	for range 4000 {
		l := s.some()
		whole, e := plan.Print(l)
		if e != api.OK {
			t.Fatalf("Print(%s): error %d", flat(l), e)
		}
		if again, e := plan.Parse(whole); e != api.OK || !slices.Equal(again, l) {
			t.Fatalf("Parse of Print(%s): %s, error %d", flat(l), flat(again), e)
		}
	}
}

// Print of what Parse takes is the text: a plan has one text alone.
func TestPrintOfParse(t *testing.T) {
	s := source(4)
	taken := 0
	for range 30000 {
		whole := s.nearText(modelText(s.some()))
		l, e := plan.Parse(whole)
		if e != api.OK {
			continue
		}
		taken++
		if again, e := plan.Print(l); e != api.OK || again != whole || plan.Check(l) != api.OK {
			t.Fatalf("Print of Parse(%q): %q, error %d", whole, again, e)
		}
	}
	if taken < 1000 {
		t.Errorf("%d texts were taken", taken)
	}
}

// Two plans of one text are the same.
func TestOneTextOnePlan(t *testing.T) {
	first := map[string][]api.Deed{}
	s := source(5)
	for range 4000 {
		l := s.some()
		whole, _ := plan.Print(l)
		if other, met := first[whole]; met && !slices.Equal(l, other) {
			t.Fatalf("%q is the text of two plans", whole)
		}
		first[whole] = l
	}
}

// smallDisks is all sets of files of a few paths.
func smallDisks() [][]api.File {
	sets := [][]api.File{nil}
	for _, path := range []string{"/a", "/a/b", "/c"} {
		for _, l := range sets {
			for _, f := range []api.File{{Path: path, Dir: true}, {Path: path}, {Path: path, Data: "x"}} {
				more := append(slices.Clone(l), f)
				if _, e := disk.Load(more); e == api.OK {
					sets = append(sets, more)
				}
			}
		}
	}
	return sets
}

// smallPlans is all plans of a few deeds.
func smallPlans() [][]api.Deed {
	var few []api.Deed
	for _, path := range []string{"/a", "/a/b", "/c"} {
		few = append(few, unlink(path), rmdir(path), mkdir(path), put(path, ""), put(path, "x"))
	}
	return slices.DeleteFunc(all(4, few...), func(l []api.Deed) bool { return plan.Check(l) != api.OK })
}

// possible does a deed, and tells whether what it asks for was there, and it could be done.
func possible(d *disk.Disk, deed api.Deed) bool {
	kind := d.Kind(deed.Path)
	switch deed.Kind {
	case api.DeedUnlink:
		return kind == 1 && d.Remove(deed.Path) == api.OK
	case api.DeedRmdir:
		return kind == 2 && d.Remove(deed.Path) == api.OK
	case api.DeedMkdir:
		return kind == 0 && d.Mkdir(deed.Path) == api.OK
	}
	return d.Write(deed.Path, deed.Data) == api.OK
}

// again does a deed; where it was done already, nothing.
func again(d *disk.Disk, deed api.Deed) api.Errno {
	kind := d.Kind(deed.Path)
	switch {
	case deed.Kind == api.DeedUnlink && kind == 1, deed.Kind == api.DeedRmdir && kind == 2:
		return d.Remove(deed.Path)
	case deed.Kind == api.DeedMkdir && kind == 0:
		return d.Mkdir(deed.Path)
	case deed.Kind == api.DeedPut:
		return d.Write(deed.Path, deed.Data)
	}
	return api.OK
}

// doable is the files behind deeds that can be done on a disk; false, if one can't.
func doable(files []api.File, l []api.Deed) ([]api.File, bool) {
	d, _ := disk.Load(files)
	for _, deed := range l {
		if !possible(d, deed) {
			return nil, false
		}
	}
	return d.All(), true
}

// A plan that can be done, done from the beginning once more, however far it was done, comes to the same.
func TestDoneAgain(t *testing.T) {
	disks, plans, done := smallDisks(), smallPlans(), 0
	for _, l := range plans {
		for _, files := range disks {
			want, ok := doable(files, l)
			if !ok {
				continue
			}
			done++
			for far := range len(l) + 1 {
				d, _ := disk.Load(files)
				for _, deed := range slices.Concat(l[:far], l) {
					if e := again(d, deed); e != api.OK {
						t.Fatalf("%s on %s behind %d: error %d", flat(l), flat(files), far, e)
					}
				}
				if got := d.All(); !slices.Equal(got, want) {
					t.Fatalf("%s on %s behind %d: %s, not %s", flat(l), flat(files), far, flat(got), flat(want))
				}
			}
		}
	}
	if done < 1000 {
		t.Error("too few plans are done:", done, "of", len(plans), "on", len(disks))
	}
}

// A plan's text is such that a disk takes it, and gives it back.
func TestOnDisk(t *testing.T) {
	s := source(6)
	d := disk.New()
	d.Mkdir("/journal")
	for range 200 {
		l := s.some()
		whole, _ := plan.Print(l)
		if e := d.Write("/journal/plan", whole); e != api.OK {
			t.Fatal(e)
		}
		there, _ := d.Read("/journal/plan")
		if got, e := plan.Parse(there); e != api.OK || !slices.Equal(got, l) || strings.Count(there, "\n") != len(l)+1 {
			t.Fatalf("%q: %s, error %d", there, flat(got), e)
		}
	}
}
