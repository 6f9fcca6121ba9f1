package walkup_test

import (
	"slices"
	"strings"
	"testing"

	"halyard/api"
	"halyard/disk"
	"halyard/tree"
	"halyard/walkup"
)

// P13.2: the directory's own modules, those of one further up, the root's, none.
func TestOnDisk(t *testing.T) {
	d := stored(t, "/modules/a", "/modules/b", "/modules/a/modules/b", "/modules/a/modules/c", "/modules/a/modules/c/modules/d", "/modules/d")
	const a, b, d1 = "/modules/a", "/modules/b", "/modules/d"
	const ab, ac, acd = a + "/modules/b", a + "/modules/c", a + "/modules/c/modules/d"
	for _, q := range []struct{ from, label, want string }{
		{"/", "a", a}, {"/", "b", b}, {"/", "c", ""}, {"/", "d", d1}, {"/", "e", ""},
		{a, "a", a}, {a, "b", ab}, {a, "c", ac}, {a, "d", d1}, {a, "e", ""},
		{b, "a", a}, {b, "b", b}, {b, "c", ""}, {b, "d", d1},
		{ab, "a", a}, {ab, "b", ab}, {ab, "c", ac}, {ab, "d", d1},
		{ac, "a", a}, {ac, "b", ab}, {ac, "c", ac}, {ac, "d", acd},
		{acd, "a", a}, {acd, "b", ab}, {acd, "c", ac}, {acd, "d", acd}, {acd, "e", ""},
		{d1, "a", a}, {d1, "b", b}, {d1, "c", ""}, {d1, "d", d1},
	} {
		meets(t, d, q.from, q.label, q.want)
	}
}

// P13.2: the chapter's examples, on a disk.
func TestExamplesOnDisk(t *testing.T) {
	d := load(t, project(t, chapter())...)
	meets(t, d, "/modules/a/modules/b", "b", "/modules/a/modules/b")
	meets(t, d, "/modules/a", "b", "/modules/a/modules/b")
	meets(t, d, "/", "b", "/modules/b")
	meets(t, d, "/modules/b", "a", "/modules/a")
	meets(t, d, "/modules/a", "c", "")
	meets(t, d, "/", "A", "")
}

// P13.2: a nil disk, whatever else is handed in.
func TestNoDisk(t *testing.T) {
	for _, from := range append(noPaths(), "/", "/modules/a") {
		for _, label := range append(noNames(), "a", "b") {
			meets(t, nil, from, label, "")
		}
	}
}

// P13.2: a from that is the text of no path.
func TestOnDiskFromNoPath(t *testing.T) {
	d := stored(t, "/modules/a", "/modules/a/modules/b", "/modules/b")
	for _, from := range noPaths() {
		for _, label := range []string{"a", "b"} {
			meets(t, d, from, label, "")
		}
	}
}

// P13.2: a label that may not be is not found, also where the disk has a directory of that name.
func TestOnDiskLabels(t *testing.T) {
	d := stored(t, "/modules/a", "/modules/1a", "/modules/-a", "/modules/a.b", "/modules/abcdefghijklmnopq", "/modules/a/modules/b", "/modules/a/modules/1a", "/modules/package", "/modules/modules", "/modules/abcdefghijklmnop")
	for _, label := range append(noNames(), "a/modules/b", "../a") {
		for _, from := range []string{"/", "/modules/a", "/modules/a/modules/b"} {
			meets(t, d, from, label, "")
		}
	}
	for _, label := range []string{"a", "package", "modules", "abcdefghijklmnop"} {
		meets(t, d, "/", label, "/modules/"+label)
		meets(t, d, "/modules/"+label, label, "/modules/"+label)
	}
}

// P13.2: from a path where nothing stands, or something else: the way up goes by names alone.
func TestOnDiskFromNothing(t *testing.T) {
	d := stored(t, "/modules/a", "/modules/a/modules/b", "/modules/b")
	for _, from := range []string{"/modules/a/modules/x", "/modules/a/modules/x/modules/y", "/modules/a/modules/a", "/modules/a/modules/b/modules/b"} {
		meets(t, d, from, "b", "/modules/a/modules/b")
		meets(t, d, from, "a", "/modules/a")
		meets(t, d, from, "x", "")
	}
	for _, from := range []string{"/modules/x", "/modules/x/modules/y", "/modules/b/modules/a"} {
		meets(t, d, from, "b", "/modules/b")
		meets(t, d, from, "a", "/modules/a")
	}
	for _, from := range []string{"/", "/modules/a", "/modules/a/modules/b"} {
		meets(t, disk.New(), from, "a", "")
	}
	// From a file, and from a directory that is no package's.
	d = load(t, folder("/modules"), file("/modules/a"), folder("/modules/b"), folder("/modules/b/modules"), folder("/modules/b/modules/c"), file("/modules/b/modules/c/package"), folder("/modules/c"), file("/modules/c/package"))
	meets(t, d, "/modules/a", "c", "/modules/c")
	meets(t, d, "/modules/b", "c", "/modules/b/modules/c")
	meets(t, d, "/modules/b/modules/x", "c", "/modules/b/modules/c")
}

// P13.2: only a directory with a file `package` in it is found; what is nearer and has none is gone by.
func TestOnDiskPackages(t *testing.T) {
	const near, far = "/modules/a/modules/b", "/modules/b"
	ahead := []api.File{folder("/modules"), folder("/modules/a"), folder("/modules/a/modules"), file("/modules/a/package"), folder(far), file(far + "/package")}
	for what, q := range map[string]struct {
		files []api.File
		want  string
	}{
		"nothing":                         {nil, far},
		"a directory with the file":       {[]api.File{folder(near), file(near + "/package")}, near},
		"a directory with an empty file":  {[]api.File{folder(near), {Path: near + "/package"}}, near},
		"an empty directory":              {[]api.File{folder(near)}, far},
		"a directory with other files":    {[]api.File{folder(near), file(near + "/pack"), file(near + "/package.x"), folder(near + "/modules")}, far},
		"a directory in the file's place": {[]api.File{folder(near), folder(near + "/package")}, far},
		"a file in a directory there":     {[]api.File{folder(near), folder(near + "/package"), file(near + "/package/package")}, far},
		"a file in the directory's place": {[]api.File{file(near)}, far},
		"a package further in":            {[]api.File{folder(near), folder(near + "/modules"), folder(near + "/modules/b"), file(near + "/modules/b/package")}, far},
		"a directory beside it":           {[]api.File{folder(near + "b"), file(near + "b/package")}, far},
	} {
		d := load(t, append(slices.Clone(ahead), q.files...)...)
		if got, ok := walkup.OnDisk(d, "/modules/a", "b"); got != q.want || !ok {
			t.Errorf("with %s: %q, %v, not %q", what, got, ok, q.want)
		}
		meets(t, d, "/", "b", far)
		// Without the one further up.
		for _, path := range []string{far + "/package", far} {
			if e := d.Remove(path); e != api.OK {
				t.Fatal(path, e)
			}
		}
		want := q.want
		if want == far {
			want = ""
		}
		meets(t, d, "/modules/a", "b", want)
		meets(t, d, "/", "b", "")
	}
	// A file in the place of modules; a package directory beside the modules.
	d := load(t, file("/modules"), folder("/a"), file("/a/package"), file("/package"))
	for _, label := range []string{"a", "modules", "package"} {
		meets(t, d, "/", label, "")
	}
	d = load(t, folder("/modules"), file("/modules/package"), file("/package"))
	for _, label := range []string{"a", "modules", "package"} {
		meets(t, d, "/", label, "")
	}
}

// P13.2: with the power gone looks are as ever.
func TestOnDiskDown(t *testing.T) {
	d := stored(t, "/modules/a", "/modules/a/modules/b")
	if e := d.Cut(0); e != api.OK || !d.Down() {
		t.Fatal(e)
	}
	meets(t, d, "/", "a", "/modules/a")
	meets(t, d, "/modules/a", "b", "/modules/a/modules/b")
	meets(t, d, "/", "b", "")
	if !d.Down() {
		t.Error("the power is back")
	}
}

// row is the text of a path of so many names.
func row(name string, count int) string { return strings.Repeat("/modules/"+name, count) }

// deepest is a disk with as many package directories, each in the one ahead, as its paths may be long.
func deepest(t *testing.T, name string) (*disk.Disk, int) {
	t.Helper()
	d := disk.New()
	for n := 1; ; n++ {
		text := row(name, n)
		if len(text)+len("/package") > api.MaxDiskPath {
			return d, n - 1
		}
		for _, e := range []api.Errno{d.Mkdir(text[:len(text)-len(name)-1]), d.Mkdir(text), d.Write(text+"/package", "")} {
			if e != api.OK {
				t.Fatal(n, e)
			}
		}
	}
}

// P13.2: from paths that are as long as a disk's may be, or longer, all that is on the disk is found.
func TestOnDiskLongPaths(t *testing.T) {
	for _, name := range []string{"a", "ab", "abcdefghijklmnop"} {
		d, depth := deepest(t, name)
		if e := d.Mkdir("/modules/c"); e != api.OK {
			t.Fatal(e)
		}
		if e := d.Write("/modules/c/package", ""); e != api.OK {
			t.Fatal(e)
		}
		// One more has no room for its file.
		more := row(name, depth+1)
		if e := d.Write(more+"/package", ""); e != api.ErrPath {
			t.Fatal(e)
		}
		for _, count := range []int{depth - 2, depth - 1, depth, depth + 1, depth + 2, 407, 408, 409, 410, 411, 1000, 100000} {
			want := row(name, min(count+1, depth))
			meets(t, d, row(name, count), name, want)
			meets(t, d, row(name, count), "c", "/modules/c")
			meets(t, d, row(name, count), "z", "")
		}
	}
	// Of a path that is too long, too, all is looked at: a name that may not be, at its end.
	d := stored(t, "/modules/a")
	meets(t, d, row("a", 1000), "a", "/modules/a")
	meets(t, d, row("a", 1000)+"/modules/A", "a", "")
	meets(t, d, row("a", 1000)+"/modules", "a", "")
	meets(t, d, row("a", 100000)+"/", "a", "")
}

// P13.2: a directory of as long a path as may be, which has no room for its file, is none.
func TestOnDiskNoRoom(t *testing.T) {
	d, depth := deepest(t, "a")
	up := row("a", depth)
	if e := d.Mkdir(up + "/modules"); e != api.OK {
		t.Fatal(e)
	}
	label := strings.Repeat("b", min(16, api.MaxDiskPath-len(up)-len("/modules/")))
	if len(label) < 1 {
		t.Fatal(len(up))
	}
	if e := d.Mkdir(up + "/modules/" + label); e != api.OK {
		t.Fatal(e)
	}
	meets(t, d, up, label, "")
	if e := d.Mkdir("/modules/" + label); e != api.OK {
		t.Fatal(e)
	}
	if e := d.Write("/modules/"+label+"/package", ""); e != api.OK {
		t.Fatal(e)
	}
	meets(t, d, up, label, "/modules/"+label)
}

// someDisk is a disk with some package directories, some that are none, and files in their places.
func (s *source) someDisk(t *testing.T) *disk.Disk {
	t.Helper()
	d := disk.New()
	dirs := []string{""}
	for range s.below(40) {
		at := dirs[s.below(len(dirs))]
		switch s.below(8) {
		case 0:
			d.Write(at+"/modules", "x")
		case 1:
			d.Mkdir(at + "/package")
		case 2:
			d.Write(at+"/modules/"+s.pick(few...), "x")
		case 3:
			d.Write(at+"/package", "x")
		default:
			text := at + "/modules/" + s.pick(few...)
			d.Mkdir(at + "/modules")
			if d.Mkdir(text) == api.OK {
				dirs = append(dirs, text)
				if s.below(3) > 0 {
					d.Write(text+"/package", "")
				}
			}
		}
	}
	return d
}

// P13.2: as the model, on disks of many kinds.
func TestOnDiskAsModel(t *testing.T) {
	s := source(3)
	met, none := 0, 0
	for i := 0; i < 1000 && !t.Failed(); i++ {
		d := s.someDisk(t)
		froms := []string{"/", "/modules/a/modules/b/modules/a", s.pick(noPaths()...)}
		for _, f := range d.All() {
			froms = append(froms, f.Path)
		}
		for _, from := range froms {
			for _, label := range append(few[:6:6], s.pick(few...), s.pick(noNames()...)) {
				want := modelOnDisk(d, from, label)
				meets(t, d, from, label, want)
				if want == "" {
					none++
				} else {
					met++
				}
			}
		}
	}
	if met < 10000 || none < 10000 {
		t.Error("too few of a kind:", met, none)
	}
}

// P13.4: of the files of a project with a tree that may be, OnDisk finds what Look finds, also with the power gone.
func TestSameOnDisk(t *testing.T) {
	s := source(4)
	met := 0
	for i := 0; i < 600 && !t.Failed(); i++ {
		x := s.someTree()
		if tree.Check(x) != api.OK {
			t.Fatal(flat(x))
		}
		d := load(t, project(t, x)...)
		if s.below(2) == 0 {
			d.Cut(0)
		}
		for from, dir := range x.Dirs {
			for _, label := range append(few, s.pick(noNames()...)) {
				want := ""
				if at := walkup.Look(x, from, label); at >= 0 {
					want = tree.Text(x.Dirs[at].Path)
					met++
				}
				meets(t, d, tree.Text(dir.Path), label, want)
			}
		}
	}
	if met < 10000 {
		t.Errorf("%d found", met)
	}
}
