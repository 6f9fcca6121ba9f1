package disk_test

import (
	"math"
	"slices"
	"strings"
	"testing"

	"halyard/api"
	"halyard/disk"
)

// The chapter's table of examples, one row behind the other on one disk.
func TestExamples(t *testing.T) {
	d := disk.New()
	answers(t, "Mkdir /a", d.Mkdir("/a"), api.OK)
	answers(t, "Write /a/f", d.Write("/a/f", "x"), api.OK)
	answers(t, "Mkdir /a again", d.Mkdir("/a"), api.ErrThere)
	answers(t, "Mkdir /b/c", d.Mkdir("/b/c"), api.ErrAbsent)
	answers(t, "Mkdir /a/f/g", d.Mkdir("/a/f/g"), api.ErrKind)

	reads(t, d, "/a/f", "x")
	for path, want := range map[string]api.Errno{"/a": api.ErrKind, "/b": api.ErrAbsent, "a": api.ErrPath} {
		_, e := d.Read(path)
		answers(t, "Read "+path, e, want)
	}
	if k := d.Kind("/"); k != 2 {
		t.Error("Kind /:", k)
	}

	answers(t, "Rename /a/f /g", d.Rename("/a/f", "/g"), api.OK)
	answers(t, "Rename /a /b", d.Rename("/a", "/b"), api.ErrKind)
	answers(t, "Remove /a", d.Remove("/a"), api.OK)
	answers(t, "Remove /a again", d.Remove("/a"), api.ErrAbsent)

	answers(t, "Cut 1", d.Cut(1), api.OK)
	answers(t, "Write /h", d.Write("/h", ""), api.OK)
	answers(t, "Write /i", d.Write("/i", ""), api.ErrDown)
	if !d.Down() {
		t.Error("the power is on behind the cut")
	}
	holds(t, d, file("/g", "x"), file("/h", ""))

	d.Up()
	answers(t, "Write /i", d.Write("/i", ""), api.OK)
	answers(t, "Mkdir /", d.Mkdir("/"), api.ErrPath)
	answers(t, "Write /A", d.Write("/A", ""), api.ErrPath)
	answers(t, "Cut -1", d.Cut(-1), api.ErrArg)
}

// P1.1, New.
func TestNew(t *testing.T) {
	d := disk.New()
	holds(t, d)
	noted(t, d)
	listed(t, d, "/")
	if d.Kind("/") != 2 || d.Down() {
		t.Error("Kind, Down of a new disk:", d.Kind("/"), d.Down())
	}
	other := disk.New()
	answers(t, "Mkdir", d.Mkdir("/a"), api.OK)
	answers(t, "Cut", d.Cut(0), api.OK)
	holds(t, other)
	noted(t, other)
	if other.Down() {
		t.Error("two new disks share their power")
	}
}

// P1.1, Load of what a disk may have.
func TestLoad(t *testing.T) {
	for _, l := range [][]api.File{nil, {}} {
		d := load(t, l...)
		holds(t, d)
		listed(t, d, "/")
	}
	d := load(t, file("/a/b/c/f", "x\x00\n\xff"), dir("/a/b/c"), file("/g", ""), dir("/a/b"), dir("/e"), dir("/a"))
	want := []api.File{dir("/a"), dir("/a/b"), dir("/a/b/c"), file("/a/b/c/f", "x\x00\n\xff"), dir("/e"), file("/g", "")}
	holds(t, d, want...)
	noted(t, d)
	listed(t, d, "/", "a", "e", "g")
	reads(t, d, "/a/b/c/f", "x\x00\n\xff")
	if d.Down() {
		t.Error("the power is off behind Load")
	}
	for range 50 {
		answers(t, "a raw write behind Load", d.Write("/e/f", ""), api.OK)
	}
	again := load(t, want...)
	slices.Reverse(want)
	if turned := load(t, want...); !slices.Equal(again.All(), turned.All()) {
		t.Error("what Load makes hangs on the order of its list")
	}
}

// P1.1, Load: the edges of paths.
func TestLoadEdges(t *testing.T) {
	for _, path := range onePartPaths() {
		holds(t, load(t, dir(path)), dir(path))
		holds(t, load(t, file(path, "x")), file(path, "x"))
	}
	for _, n := range []int{api.MaxDiskPath - 1, api.MaxDiskPath} {
		path := longPath(n)
		d := load(t, append([]api.File{file(path, "deep")}, above(path)...)...)
		reads(t, d, path, "deep")
	}
	many := strings.Repeat("/a", api.MaxDiskPath/2)
	load(t, append(above(many), dir(many))...)
}

// P1.1, Load of what no disk may have.
func TestLoadRefused(t *testing.T) {
	bad := [][]api.File{
		{dir("/")}, {file("/", "")}, {dir("/a"), dir("/")},
		{dir("/a"), dir("/a")}, {file("/a", "x"), file("/a", "x")}, {file("/a", "x"), file("/a", "y")},
		{dir("/a"), file("/a", "")}, {file("/a", ""), dir("/a")}, {dir("/a"), file("/a/f", ""), dir("/b"), file("/a/f", "")},
		{file("/a/f", "")}, {dir("/a/b")}, {dir("/a"), file("/a/b/c", "")}, {dir("/a/b"), file("/a/b/c", "")}, {dir("/b"), dir("/a/b")},
		{file("/a", ""), file("/a/f", "")}, {file("/a/f", ""), file("/a", "")}, {file("/a", ""), dir("/a/b")},
		{dir("/a"), file("/a/f", ""), dir("/a/f/g")}, {dir("/ab"), dir("/a/b")},
		{{Path: "/a", Dir: true, Data: "x"}}, {dir("/b"), {Path: "/a", Dir: true, Data: "\x00"}},
	}
	for _, path := range noPaths() {
		bad = append(bad, []api.File{dir(path)}, []api.File{file(path, "x")}, []api.File{dir("/a"), dir("/x"), file(path, "")})
	}
	long := longPath(api.MaxDiskPath + 1)
	bad = append(bad, append(above(long), file(long, "")))
	for _, l := range bad {
		if d, e := disk.Load(l); d != nil || e != api.ErrArg {
			t.Errorf("Load(%.200q): %v, %v", strings.Join(paths(l), " "), d != nil, e)
		}
	}
}

// P1.2, P1.5: what is done is noted.
func TestDone(t *testing.T) {
	d := disk.New()
	var want []api.Raw
	done := func(e api.Errno, r api.Raw, files ...api.File) {
		t.Helper()
		answers(t, "a raw write", e, api.OK)
		want = append(want, r)
		noted(t, d, want...)
		holds(t, d, files...)
	}
	done(d.Mkdir("/a"), api.Raw{Kind: 1, Path: "/a"}, dir("/a"))
	done(d.Mkdir("/a/b"), api.Raw{Kind: 1, Path: "/a/b"}, dir("/a"), dir("/a/b"))
	done(d.Write("/a/b/f", "x"), api.Raw{Kind: 2, Path: "/a/b/f"}, dir("/a"), dir("/a/b"), file("/a/b/f", "x"))
	done(d.Write("/a/b/f", "y\xff\x00"), api.Raw{Kind: 2, Path: "/a/b/f"}, dir("/a"), dir("/a/b"), file("/a/b/f", "y\xff\x00"))
	done(d.Write("/a/b/f", "y\xff\x00"), api.Raw{Kind: 2, Path: "/a/b/f"}, dir("/a"), dir("/a/b"), file("/a/b/f", "y\xff\x00"))
	done(d.Write("/a/b/f", ""), api.Raw{Kind: 2, Path: "/a/b/f"}, dir("/a"), dir("/a/b"), file("/a/b/f", ""))
	done(d.Write("/g", "z"), api.Raw{Kind: 2, Path: "/g"}, dir("/a"), dir("/a/b"), file("/a/b/f", ""), file("/g", "z"))
	done(d.Rename("/g", "/g"), api.Raw{Kind: 3, Path: "/g", To: "/g"}, dir("/a"), dir("/a/b"), file("/a/b/f", ""), file("/g", "z"))
	done(d.Rename("/g", "/a/b/f"), api.Raw{Kind: 3, Path: "/g", To: "/a/b/f"}, dir("/a"), dir("/a/b"), file("/a/b/f", "z"))
	done(d.Rename("/a/b/f", "/a/h"), api.Raw{Kind: 3, Path: "/a/b/f", To: "/a/h"}, dir("/a"), dir("/a/b"), file("/a/h", "z"))
	done(d.Remove("/a/b"), api.Raw{Kind: 4, Path: "/a/b"}, dir("/a"), file("/a/h", "z"))
	done(d.Remove("/a/h"), api.Raw{Kind: 4, Path: "/a/h"}, dir("/a"))
	done(d.Remove("/a"), api.Raw{Kind: 4, Path: "/a"})
	done(d.Write("/a", "now a file"), api.Raw{Kind: 2, Path: "/a"}, file("/a", "now a file"))
}

// small is a disk with a directory, one in it, files in both and at the root, and names that begin as another one does.
func small(t *testing.T) *disk.Disk {
	t.Helper()
	return load(t, dir("/a"), dir("/a/b"), file("/a/b/f", "x"), file("/a/g", "y"), file("/h", "z"), dir("/e"), dir("/ab"), file("/ab/e", "w"), dir("/e-e"), file("/e-e/f", ""))
}

// P1.2, Mkdir.
func TestMkdirRefused(t *testing.T) {
	d := small(t)
	for path, want := range map[string]api.Errno{
		"/x/y": api.ErrAbsent, "/a/x/y": api.ErrAbsent, "/h/x/y": api.ErrAbsent, "/b/f": api.ErrAbsent,
		"/h/x": api.ErrKind, "/a/b/f/x": api.ErrKind,
		"/a": api.ErrThere, "/a/b": api.ErrThere, "/h": api.ErrThere, "/a/g": api.ErrThere, "/e": api.ErrThere,
	} {
		refuses(t, "Mkdir "+path, d, want, func() api.Errno { return d.Mkdir(path) })
	}
}

// P1.2, Write.
func TestWriteRefused(t *testing.T) {
	d := small(t)
	for path, want := range map[string]api.Errno{
		"/x/y": api.ErrAbsent, "/a/x/y": api.ErrAbsent, "/h/x/y": api.ErrAbsent, "/b/f": api.ErrAbsent,
		"/h/x": api.ErrKind, "/a/b/f/x": api.ErrKind,
		"/a": api.ErrKind, "/a/b": api.ErrKind, "/e": api.ErrKind,
	} {
		refuses(t, "Write "+path, d, want, func() api.Errno { return d.Write(path, "new") })
		refuses(t, "Write "+path, d, want, func() api.Errno { return d.Write(path, "") })
	}
}

// P1.2, Rename: of several errors the one that is named first.
func TestRenameRefused(t *testing.T) {
	d := small(t)
	for _, c := range []struct {
		from, to string
		want     api.Errno
	}{
		{"/x", "/y", api.ErrAbsent}, {"/x", "/x", api.ErrAbsent}, {"/a/x", "/y", api.ErrAbsent}, {"/x/y", "/z", api.ErrAbsent}, {"/h/x", "/z", api.ErrAbsent},
		{"/x", "/h/y", api.ErrAbsent}, {"/x", "/e", api.ErrAbsent}, {"/x", "/a", api.ErrAbsent},
		{"/a", "/y", api.ErrKind}, {"/e", "/y", api.ErrKind}, {"/e", "/e", api.ErrKind}, {"/e", "/x/y", api.ErrKind}, {"/e", "/h", api.ErrKind}, {"/e", "/a/x", api.ErrKind},
		{"/h", "/x/y", api.ErrAbsent}, {"/h", "/a/x/y", api.ErrAbsent}, {"/h", "/h/x/y", api.ErrAbsent},
		{"/h", "/h/x", api.ErrKind}, {"/h", "/a/g/x", api.ErrKind},
		{"/h", "/a", api.ErrKind}, {"/h", "/e", api.ErrKind}, {"/a/g", "/a", api.ErrKind}, {"/a/b/f", "/a/b", api.ErrKind},
	} {
		refuses(t, "Rename "+c.from+" "+c.to, d, c.want, func() api.Errno { return d.Rename(c.from, c.to) })
	}
}

// P1.2, Remove: what only begins like a directory's path is not in it.
func TestRemove(t *testing.T) {
	d := small(t)
	for path, want := range map[string]api.Errno{
		"/x": api.ErrAbsent, "/a/x": api.ErrAbsent, "/x/y": api.ErrAbsent, "/h/x": api.ErrAbsent, "/b": api.ErrAbsent,
		"/a": api.ErrUsed, "/a/b": api.ErrUsed, "/ab": api.ErrUsed, "/e-e": api.ErrUsed,
	} {
		refuses(t, "Remove "+path, d, want, func() api.Errno { return d.Remove(path) })
	}
	answers(t, "Remove an empty one", d.Remove("/e"), api.OK)
	answers(t, "Remove a file", d.Remove("/a/b/f"), api.OK)
	refuses(t, "Remove one with a directory in it", d, api.ErrUsed, func() api.Errno { return d.Remove("/a") })
	answers(t, "Remove a file", d.Remove("/a/g"), api.OK)
	refuses(t, "Remove one with an empty directory alone", d, api.ErrUsed, func() api.Errno { return d.Remove("/a") })
	answers(t, "Remove what is empty now", d.Remove("/a/b"), api.OK)
	answers(t, "Remove what is empty now", d.Remove("/a"), api.OK)
	holds(t, d, dir("/ab"), file("/ab/e", "w"), dir("/e-e"), file("/e-e/f", ""), file("/h", "z"))
}

// P1.2, P1.3: no path, or the root.
func TestNoPath(t *testing.T) {
	d := small(t)
	for _, path := range append(noPaths(), "/") {
		what := path[:min(len(path), 30)]
		refuses(t, "Mkdir "+what, d, api.ErrPath, func() api.Errno { return d.Mkdir(path) })
		refuses(t, "Write "+what, d, api.ErrPath, func() api.Errno { return d.Write(path, "x") })
		refuses(t, "Remove "+what, d, api.ErrPath, func() api.Errno { return d.Remove(path) })
		for _, other := range []string{"/h", "/x", "/e", "/x/y", path} {
			refuses(t, "Rename "+what+" "+other, d, api.ErrPath, func() api.Errno { return d.Rename(path, other) })
			refuses(t, "Rename "+other+" "+what, d, api.ErrPath, func() api.Errno { return d.Rename(other, path) })
		}
		if path == "/" {
			continue
		}
		if s, e := d.Read(path); s != "" || e != api.ErrPath {
			t.Errorf("Read(%q): %q, %v", what, s, e)
		}
		if l, e := d.List(path); len(l) != 0 || e != api.ErrPath {
			t.Errorf("List(%q): %q, %v", what, l, e)
		}
		if k := d.Kind(path); k != 0 {
			t.Errorf("Kind(%q): %d", what, k)
		}
	}
}

// P1.2: the edges of paths.
func TestPathEdges(t *testing.T) {
	d := disk.New()
	for _, path := range onePartPaths() {
		answers(t, "Mkdir "+path, d.Mkdir(path), api.OK)
		answers(t, "Write in "+path, d.Write(path+path, "x"), api.OK)
		reads(t, d, path+path, "x")
		answers(t, "Rename in "+path, d.Rename(path+path, path+"/to"), api.OK)
		answers(t, "Remove in "+path, d.Remove(path+"/to"), api.OK)
		answers(t, "Remove "+path, d.Remove(path), api.OK)
	}
	long := longPath(api.MaxDiskPath)
	for _, f := range above(long) {
		answers(t, "Mkdir above a long path", d.Mkdir(f.Path), api.OK)
	}
	answers(t, "Write of 4096 bytes", d.Write(long, "x"), api.OK)
	reads(t, d, long, "x")
	refuses(t, "Write of 4097 bytes", d, api.ErrPath, func() api.Errno { return d.Write(long+"p", "x") })
	refuses(t, "Rename to 4097 bytes", d, api.ErrPath, func() api.Errno { return d.Rename(long, long+"p") })
	answers(t, "Rename to 4095 bytes", d.Rename(long, long[:len(long)-1]), api.OK)
	answers(t, "Mkdir of 4096 bytes", d.Mkdir(long), api.OK)
	refuses(t, "Mkdir below 4096 bytes", d, api.ErrPath, func() api.Errno { return d.Mkdir(long + "/a") })
}

// P1.3, while the power is on and while it is off.
func TestLooks(t *testing.T) {
	d := small(t)
	look := func() {
		t.Helper()
		for path, want := range map[string]api.Errno{"/": api.ErrKind, "/a": api.ErrKind, "/e": api.ErrKind, "/x": api.ErrAbsent, "/a/f": api.ErrAbsent, "/h/x": api.ErrAbsent, "h": api.ErrPath, "/h/": api.ErrPath} {
			if s, e := d.Read(path); s != "" || e != want {
				t.Errorf("Read(%q): %q, %v, not %v", path, s, e, want)
			}
		}
		reads(t, d, "/a/b/f", "x")
		reads(t, d, "/h", "z")
		reads(t, d, "/e-e/f", "")
		for path, want := range map[string]int{"/": 2, "/a": 2, "/a/b": 2, "/e": 2, "/h": 1, "/a/b/f": 1, "/e-e/f": 1, "/x": 0, "/h/x": 0, "/a/f": 0, "": 0, "a": 0, "/a/": 0, "//": 0, "/A": 0} {
			if k := d.Kind(path); k != want {
				t.Errorf("Kind(%q): %d, not %d", path, k, want)
			}
		}
		for path, want := range map[string]api.Errno{"/x": api.ErrAbsent, "/h/x": api.ErrAbsent, "/h": api.ErrKind, "/a/b/f": api.ErrKind, "": api.ErrPath, "/a/": api.ErrPath} {
			if l, e := d.List(path); len(l) != 0 || e != want {
				t.Errorf("List(%q): %q, %v, not %v", path, l, e, want)
			}
		}
		listed(t, d, "/", "a", "ab", "e", "e-e", "h")
		listed(t, d, "/a", "b", "g")
		listed(t, d, "/a/b", "f")
		listed(t, d, "/e")
		holds(t, d, dir("/a"), dir("/a/b"), file("/a/b/f", "x"), file("/a/g", "y"), dir("/ab"), file("/ab/e", "w"), dir("/e"), dir("/e-e"), file("/e-e/f", ""), file("/h", "z"))
		noted(t, d)
	}
	look()
	d.Cut(0)
	look()
	if !d.Down() {
		t.Error("a look has brought the power back")
	}
}

// P1.3: all is told byte by byte, as whole paths, and `-` and `.` stand ahead of `/`.
func TestOrder(t *testing.T) {
	names := []string{"-", "--", "...", "0", "9", "a", "a-", "a-z", "a.", "a.b", "a0", "aa", "b", "z", "zz"}
	d := disk.New()
	for i := range names {
		name := names[(i*7+3)%len(names)]
		answers(t, "Mkdir", d.Mkdir("/"+name), api.OK)
		answers(t, "Write", d.Write("/"+name+"/f", name), api.OK)
	}
	listed(t, d, "/", names...)
	var want []string
	for _, name := range names {
		want = append(want, "/"+name, "/"+name+"/f")
	}
	slices.Sort(want)
	if got := paths(d.All()); !slices.Equal(got, want) {
		t.Errorf("All: %q, not %q", got, want)
	}
	holds(t, load(t, dir("/a"), file("/a/f", ""), file("/a-b", ""), file("/a.b", ""), file("/a0", "")), dir("/a"), file("/a-b", ""), file("/a.b", ""), file("/a/f", ""), file("/a0", ""))
}

// P1.4.
func TestPower(t *testing.T) {
	d := disk.New()
	answers(t, "Cut 2", d.Cut(2), api.OK)
	answers(t, "first", d.Mkdir("/a"), api.OK)
	if d.Down() {
		t.Error("off behind one of two")
	}
	answers(t, "second", d.Write("/a/f", "x"), api.OK)
	if !d.Down() {
		t.Error("on behind two of two")
	}
	for _, path := range []string{"/b", "/a", "/x/y", "/a/f/g", "/", "", "/A"} {
		refuses(t, "Mkdir, off", d, api.ErrDown, func() api.Errno { return d.Mkdir(path) })
		refuses(t, "Write, off", d, api.ErrDown, func() api.Errno { return d.Write(path, "") })
		refuses(t, "Rename, off", d, api.ErrDown, func() api.Errno { return d.Rename(path, "/c") })
		refuses(t, "Rename, off", d, api.ErrDown, func() api.Errno { return d.Rename("/a/f", path) })
		refuses(t, "Remove, off", d, api.ErrDown, func() api.Errno { return d.Remove(path) })
	}
	for _, n := range []int{-1, 0, 1, math.MinInt, math.MaxInt} {
		refuses(t, "Cut, off", d, api.ErrDown, func() api.Errno { return d.Cut(n) })
	}
	d.Up()
	if d.Down() {
		t.Error("off behind Up")
	}
	for range 20 {
		answers(t, "no Cut is to come behind Up", d.Write("/a/f", ""), api.OK)
	}
}

// P1.4: Cut of 0, below 0, behind Cut, and ahead of Up.
func TestCut(t *testing.T) {
	writes := func(d *disk.Disk) int {
		n := 0
		for n < 30 && d.Write("/f", "") == api.OK {
			n++
		}
		return n
	}
	for n := range 10 {
		d := disk.New()
		answers(t, "Cut", d.Cut(n), api.OK)
		if d.Down() != (n == 0) {
			t.Errorf("Cut(%d): Down is %v", n, d.Down())
		}
		if got := writes(d); got != n {
			t.Errorf("Cut(%d): %d raw writes are done", n, got)
		}
	}
	for _, cuts := range [][]int{{5, 2}, {2, 5}, {1, 1}, {3, 0}, {1, 2, 3}, {9, 0}, {math.MaxInt, 1}, {4, -1}, {4, math.MinInt}} {
		d := disk.New()
		want := 0
		for _, n := range cuts {
			if n < 0 {
				refuses(t, "Cut below 0", d, api.ErrArg, func() api.Errno { return d.Cut(n) })
				continue
			}
			answers(t, "Cut behind Cut", d.Cut(n), api.OK)
			want = n
		}
		if got := writes(d); got != want {
			t.Errorf("Cut of %v: %d raw writes are done", cuts, got)
		}
	}
	d := disk.New()
	d.Cut(3)
	writes(load(t)) // another disk's
	d.Write("/f", "")
	answers(t, "Cut behind a raw write", d.Cut(2), api.OK)
	if got := writes(d); got != 2 {
		t.Errorf("Cut(2) behind Cut(3): %d raw writes are done", got)
	}
	d.Up()
	answers(t, "Cut of very many", d.Cut(math.MaxInt), api.OK)
	if got := writes(d); got != 30 || d.Down() {
		t.Error("Cut of very many:", got, d.Down())
	}
	d.Cut(1)
	d.Up()
	if got := writes(d); got != 30 {
		t.Errorf("Up with a Cut to come: %d raw writes are done", got)
	}
	d.Up()
	if d.Down() || d.Cut(-1) != api.ErrArg || writes(d) != 30 {
		t.Error("Up of a disk that is up")
	}
}

// P1.4: what is refused does not bring the power nearer to its end; each kind of raw write does.
func TestCutCounts(t *testing.T) {
	d := load(t, dir("/a"), file("/f", "x"))
	d.Cut(5)
	d.Clear()
	refused := func() {
		t.Helper()
		answers(t, "refused", d.Mkdir("/a"), api.ErrThere)
		answers(t, "refused", d.Write("/a", ""), api.ErrKind)
		answers(t, "refused", d.Rename("/x", "/y"), api.ErrAbsent)
		answers(t, "refused", d.Remove("/A"), api.ErrPath)
		answers(t, "refused", d.Cut(-3), api.ErrArg)
		d.Raws()
		d.All()
	}
	for _, write := range []func() api.Errno{
		func() api.Errno { return d.Mkdir("/b") },
		func() api.Errno { return d.Write("/f", "x") },
		func() api.Errno { return d.Rename("/f", "/f") },
		func() api.Errno { return d.Rename("/f", "/g") },
		func() api.Errno { return d.Remove("/g") },
	} {
		if d.Down() {
			t.Fatal("the power went too early")
		}
		refused()
		answers(t, "a raw write", write(), api.OK)
	}
	if !d.Down() {
		t.Error("the power did not go behind five raw writes")
	}
	holds(t, d, dir("/a"), dir("/b"))
}

// P1.5.
func TestRaws(t *testing.T) {
	d := load(t, file("/f", "x"))
	noted(t, d)
	d.Cut(3)
	d.Write("/f", "y")
	d.Mkdir("/f")
	d.Mkdir("/a")
	first := []api.Raw{{Kind: api.RawWrite, Path: "/f"}, {Kind: api.RawMkdir, Path: "/a"}}
	noted(t, d, first...)
	noted(t, d, first...)
	d.Clear()
	noted(t, d)
	holds(t, d, dir("/a"), file("/f", "y"))
	d.Rename("/f", "/a/g")
	d.Remove("/a/g")
	noted(t, d, api.Raw{Kind: api.RawRename, Path: "/f", To: "/a/g"})
	d.Up()
	noted(t, d, api.Raw{Kind: api.RawRename, Path: "/f", To: "/a/g"})
	d.Remove("/a/g")
	d.Cut(0)
	noted(t, d, api.Raw{Kind: api.RawRename, Path: "/f", To: "/a/g"}, api.Raw{Kind: api.RawRemove, Path: "/a/g"})
	d.Clear()
	noted(t, d)
	if !d.Down() {
		t.Error("Clear has brought the power back")
	}
	holds(t, d, dir("/a"))
	d.Clear()
	noted(t, d)
}
