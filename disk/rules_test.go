package disk_test

import (
	"math"
	"slices"
	"strconv"
	"strings"
	"testing"

	"halyard/api"
	"halyard/disk"
)

// R1: every call ends and none panics, at all arguments.
func TestEveryCallEnds(t *testing.T) {
	texts := append(noPaths(), onePartPaths()...)
	texts = append(texts, "/", "/a/b", longPath(4096), strings.Repeat("x", 1<<20), "/"+strings.Repeat("a/", 1<<19))
	for _, d := range []*disk.Disk{disk.New(), small(t)} {
		for i, s := range texts {
			other := texts[(i*31+7)%len(texts)]
			d.Read(s)
			d.Kind(s)
			d.List(s)
			d.Write(s, other)
			d.Mkdir(s)
			d.Rename(s, other)
			d.Rename(other, s)
			d.Remove(s)
			d.Cut(i % 3)
			d.Remove(other)
			d.Up()
		}
		for _, n := range []int{math.MinInt, math.MinInt32, -1, 0, 1, math.MaxInt32, math.MaxInt} {
			d.Cut(n)
			d.Down()
			d.Up()
		}
		d.Clear()
		d.All()
		d.Raws()
		sound(t, d)
	}
	disk.Load(make([]api.File, 3))
}

// R2: beside an error every other result is its zero value, and a refused call changes nothing.
func TestZeroBesideErrors(t *testing.T) {
	d := small(t)
	for _, path := range []string{"", "/x", "/a"} {
		if s, e := d.Read(path); s != "" || e == api.OK {
			t.Errorf("Read(%q): %q, %v", path, s, e)
		}
	}
	for _, path := range []string{"", "/x", "/h"} {
		if l, e := d.List(path); len(l) != 0 || e == api.OK {
			t.Errorf("List(%q): %q, %v", path, l, e)
		}
	}
	l := []api.File{dir("/a"), file("/a/f", "x"), file("/b/f", "x")}
	if d, e := disk.Load(l); d != nil || e != api.ErrArg {
		t.Errorf("Load: %v, %v", d, e)
	}
	d.Cut(2)
	answers(t, "Cut below 0", d.Cut(-1), api.ErrArg)
	d.Write("/h", "1")
	d.Write("/h", "2")
	if !d.Down() {
		t.Error("a Cut that was refused has taken the place of the one ahead")
	}
}

// R3: fields that are not named for their kind are zero.
func TestZeroFields(t *testing.T) {
	d := disk.New()
	d.Write("/f", "x")
	d.Mkdir("/a")
	d.Rename("/f", "/g")
	d.Remove("/g")
	for _, r := range d.Raws() {
		if (r.Kind == api.RawRename) != (r.To != "") {
			t.Errorf("To of %v", r)
		}
	}
	d.Mkdir("/f")
	for _, f := range d.All() {
		if !f.Dir || f.Data != "" {
			t.Errorf("a directory with bytes: %v", f)
		}
	}
}

// R4: what is handed in is neither changed nor kept.
func TestLoadKeepsNothing(t *testing.T) {
	room := []api.File{file("/a/f", "x"), dir("/a"), dir("/spare"), file("/spare/f", "s")}
	before := slices.Clone(room)
	l := room[:2]
	d := load(t, l...)
	holds(t, d, dir("/a"), file("/a/f", "x"))
	d.Write("/a/f", "y")
	d.Mkdir("/b")
	d.Remove("/a/f")
	disk.Load(room[1:1])
	if !slices.Equal(room, before) {
		t.Errorf("Load, or the disk, has changed its list: %v", room)
	}
	d = load(t, l...)
	l[0], l[1] = file("/z", "changed"), file("/a", "changed")
	holds(t, d, dir("/a"), file("/a/f", "x"))
	reads(t, d, "/a/f", "x")
	l[0] = file("/none/f", "")
	if _, e := disk.Load(l); e != api.ErrArg || l[0] != file("/none/f", "") {
		t.Error("a refused Load:", e, l)
	}
}

// spoil overwrites a list that was answered, its spare room too.
func spoil[T any](l []T, with T) {
	l = l[:cap(l)]
	for i := range l {
		l[i] = with
	}
}

// R4: what a disk tells is the caller's own, its spare room too.
func TestAnswersAreOwn(t *testing.T) {
	d := small(t)
	for range 20 {
		d.Write("/h", "z")
	}
	files, raws := d.All(), d.Raws()
	names, _ := d.List("/")
	keptFiles, keptRaws, keptNames := slices.Clone(files), slices.Clone(raws), slices.Clone(names)
	spoil(files, file("/spoilt", "s"))
	spoil(raws, api.Raw{Kind: 9, Path: "/spoilt"})
	spoil(names, "spoilt")
	holds(t, d, keptFiles...)
	noted(t, d, keptRaws...)
	listed(t, d, "/", keptNames...)

	files, raws = d.All(), d.Raws()
	names, _ = d.List("/")
	d.Write("/h", "new")
	d.Mkdir("/new")
	d.Remove("/e")
	d.All()
	d.Raws()
	d.List("/")
	if !slices.Equal(files, keptFiles) || !slices.Equal(raws, keptRaws) || !slices.Equal(names, keptNames) {
		t.Error("what was told has changed:", files, raws, names)
	}
	d.Clear()
	d.Mkdir("/newer")
	if !slices.Equal(raws, keptRaws) {
		t.Error("the raw writes that were told have changed:", raws)
	}
}

// R4: what is noted stays as it was, whatever is done with the room of lists that were told before.
func TestRawsRoom(t *testing.T) {
	d := disk.New()
	var want []api.Raw
	for i := range 40 {
		told := append(d.Raws(), api.Raw{Kind: 9})
		path := "/f" + strconv.Itoa(i)
		answers(t, "Write", d.Write(path, ""), api.OK)
		want = append(want, api.Raw{Kind: api.RawWrite, Path: path})
		spoil(told, api.Raw{Kind: 8})
		noted(t, d, want...)
	}
}

// R4: nil and empty lists are one.
func TestEmptyLists(t *testing.T) {
	for _, l := range [][]api.File{nil, {}, make([]api.File, 0, 4)} {
		d, e := disk.Load(l)
		if e != api.OK {
			t.Fatal(e)
		}
		names, e := d.List("/")
		if len(d.All()) != 0 || len(d.Raws()) != 0 || len(names) != 0 || e != api.OK {
			t.Error("an empty disk:", d.All(), d.Raws(), names, e)
		}
	}
}

// R5: the answers hang on no order of a map's keys.
func TestSameAgain(t *testing.T) {
	build := func() *disk.Disk {
		d := disk.New()
		for i := range 60 {
			path := "/d" + strconv.Itoa(i*37%60)
			d.Mkdir(path)
			d.Write(path+"/f", strconv.Itoa(i))
		}
		return d
	}
	first := build()
	names, _ := first.List("/")
	if len(names) != 60 || !slices.IsSorted(names) {
		t.Errorf("List: %q", names)
	}
	for range 20 {
		d := build()
		holds(t, d, first.All()...)
		noted(t, d, first.Raws()...)
		listed(t, d, "/", names...)
		answers(t, "Remove a used directory", d.Remove("/d7"), api.ErrUsed)
	}
}

// R6: a number outside of what may be.
func TestNumbersOutside(t *testing.T) {
	d := disk.New()
	for _, n := range []int{-1, -2, -24, math.MinInt32, math.MinInt} {
		answers(t, "Cut below 0", d.Cut(n), api.ErrArg)
		if d.Down() {
			t.Fatal("a refused Cut has taken the power")
		}
	}
}

// The numbers of the errors and limits that this layer tells.
func TestNumbers(t *testing.T) {
	for e, want := range map[api.Errno]int{api.OK: 0, api.ErrArg: 1, api.ErrPath: 10, api.ErrThere: 11, api.ErrAbsent: 12, api.ErrKind: 13, api.ErrUsed: 14, api.ErrDown: 15} {
		if int(e) != want || !strings.Contains(e.Error(), strconv.Itoa(want)) {
			t.Errorf("%d: %q, not %d", int(e), e.Error(), want)
		}
	}
	if api.MaxDiskPath != 4096 {
		t.Error("MaxDiskPath:", api.MaxDiskPath)
	}
	if got := []int{api.RawMkdir, api.RawWrite, api.RawRename, api.RawRemove}; !slices.Equal(got, []int{1, 2, 3, 4}) {
		t.Error("the kinds of raw writes:", got)
	}
}
