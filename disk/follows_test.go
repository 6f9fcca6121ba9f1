package disk_test

import (
	"slices"
	"strings"
	"testing"

	"halyard/api"
	"halyard/disk"
)

// write is a raw write that is still to be asked for.
type write struct {
	kind     int
	path, to string
	data     string
}

func (w write) ask(d *disk.Disk) api.Errno {
	switch w.kind {
	case api.RawMkdir:
		return d.Mkdir(w.path)
	case api.RawWrite:
		return d.Write(w.path, w.data)
	case api.RawRename:
		return d.Rename(w.path, w.to)
	}
	return d.Remove(w.path)
}

func (w write) raw() api.Raw { return api.Raw{Kind: w.kind, Path: w.path, To: w.to} }

// model is a disk by the chapter's words: a list in which all is looked for.
type model struct {
	files []api.File
	raws  []api.Raw
	off   bool
	cut   int // -1: none
}

func (m *model) at(path string) int {
	return slices.IndexFunc(m.files, func(f api.File) bool { return f.Path == path })
}

func (m *model) kind(path string) int {
	i := m.at(path)
	switch {
	case path == "/" || i >= 0 && m.files[i].Dir:
		return 2
	case i >= 0:
		return 1
	}
	return 0
}

func (m *model) drop(path string) {
	m.files = slices.DeleteFunc(m.files, func(f api.File) bool { return f.Path == path })
}

func parentOf(path string) string {
	return path[:max(1, strings.LastIndex(path, "/"))]
}

// fault is the first of a raw write's errors that applies. Only the paths that walks are made of are told apart here.
func (m *model) fault(w write) api.Errno {
	none := func(path string) bool {
		return path == "" || path[0] != '/' || path == "/" || strings.HasSuffix(path, "/") || strings.ToLower(path) != path || strings.HasSuffix(path, "/..")
	}
	room := func(path string) api.Errno {
		return []api.Errno{api.ErrAbsent, api.ErrKind, api.OK}[m.kind(parentOf(path))]
	}
	if m.off {
		return api.ErrDown
	}
	if none(w.path) || w.kind == api.RawRename && none(w.to) {
		return api.ErrPath
	}
	switch w.kind {
	case api.RawMkdir:
		if e := room(w.path); e != api.OK {
			return e
		}
		if m.kind(w.path) != 0 {
			return api.ErrThere
		}
	case api.RawWrite:
		if e := room(w.path); e != api.OK {
			return e
		}
		if m.kind(w.path) == 2 {
			return api.ErrKind
		}
	case api.RawRename:
		if k := m.kind(w.path); k != 1 {
			return []api.Errno{api.ErrAbsent, api.OK, api.ErrKind}[k]
		}
		if e := room(w.to); e != api.OK {
			return e
		}
		if m.kind(w.to) == 2 {
			return api.ErrKind
		}
	case api.RawRemove:
		if m.kind(w.path) == 0 {
			return api.ErrAbsent
		}
		if slices.ContainsFunc(m.files, func(f api.File) bool { return parentOf(f.Path) == w.path }) {
			return api.ErrUsed
		}
	}
	return api.OK
}

func (m *model) ask(w write) api.Errno {
	if e := m.fault(w); e != api.OK {
		return e
	}
	switch w.kind {
	case api.RawMkdir:
		m.files = append(m.files, dir(w.path))
	case api.RawWrite:
		m.drop(w.path)
		m.files = append(m.files, file(w.path, w.data))
	case api.RawRename:
		data := m.files[m.at(w.path)].Data
		m.drop(w.path)
		m.drop(w.to)
		m.files = append(m.files, file(w.to, data))
	case api.RawRemove:
		m.drop(w.path)
	}
	m.raws = append(m.raws, w.raw())
	if m.cut > 0 {
		m.cut--
		m.off = m.cut == 0
	}
	return api.OK
}

func (m *model) all() []api.File {
	l := slices.Clone(m.files)
	slices.SortFunc(l, func(a, b api.File) int { return strings.Compare(a.Path, b.Path) })
	return l
}

// dice are numbers that look like chance and are the same in every run.
type dice struct{ state uint64 }

func (d *dice) roll(n int) int {
	d.state = d.state*6364136223846793005 + 1442695040888963407
	return int(d.state>>33) % n
}

// anyWrite is a raw write of few paths, so that they meet often; some are none.
func (d *dice) anyWrite() write {
	paths := []string{"/a", "/b", "/a/a", "/a/b", "/b/a", "/b/b", "/a/a/a", "/a/a/b", "/a/b/a", "/a-b", "/a-b/a", "/ab", "/ab/a", "/a.b", "/", "a", "/a/", "/A", "/..", ""}
	some := func() string {
		if d.roll(20) == 0 {
			return paths[d.roll(len(paths))]
		}
		return paths[d.roll(len(paths)-6)]
	}
	w := write{kind: 1 + d.roll(4), path: some()}
	switch w.kind {
	case api.RawRename:
		w.to = some()
	case api.RawWrite:
		w.data = strings.Repeat("x", d.roll(3))
	}
	return w
}

// sound tells a fault unless each path's parent is the root or a directory that is told, too (P1.7).
func sound(t *testing.T, d *disk.Disk) {
	t.Helper()
	dirs := map[string]bool{"/": true}
	for _, f := range d.All() {
		dirs[f.Path] = f.Dir
	}
	for _, f := range d.All() {
		if !dirs[parentOf(f.Path)] {
			t.Errorf("%s stands in no directory", f.Path)
		}
	}
}

// P1.2 to P1.7, by long walks beside the model: each raw write does just what it says, all else stays.
func TestWalks(t *testing.T) {
	for walk := range 60 {
		d, m, chance := disk.New(), &model{cut: -1}, &dice{uint64(walk)}
		for step := range 400 {
			switch k := chance.roll(40); {
			case k == 0 && !m.off:
				m.cut = chance.roll(12)
				m.off = m.cut == 0
				answers(t, "Cut", d.Cut(m.cut), api.OK)
			case k == 0 || k == 1 || m.off && k < 12:
				m.off, m.cut = false, -1
				d.Up()
			case k == 2:
				m.raws = nil
				d.Clear()
			default:
				w := chance.anyWrite()
				if got, want := w.ask(d), m.ask(w); got != want {
					t.Fatalf("walk %d, step %d, %v: %v, not %v", walk, step, w, got, want)
				}
			}
			beside(t, d, m)
			if t.Failed() {
				t.Fatalf("walk %d, step %d", walk, step)
			}
		}
	}
}

// beside holds all that a disk tells against the model.
func beside(t *testing.T, d *disk.Disk, m *model) {
	t.Helper()
	holds(t, d, m.all()...)
	noted(t, d, m.raws...)
	sound(t, d)
	if d.Down() != m.off {
		t.Errorf("Down: %v", d.Down())
	}
	for _, path := range []string{"/", "/a", "/b", "/a/a", "/a/b", "/a/a/a", "/a-b", "/ab", "/a.b"} {
		if d.Kind(path) != m.kind(path) {
			t.Errorf("Kind(%q): %d, not %d", path, d.Kind(path), m.kind(path))
		}
		switch m.kind(path) {
		case 1:
			reads(t, d, path, m.files[m.at(path)].Data)
		case 2:
			var names []string
			for _, f := range m.all() {
				if parentOf(f.Path) == path {
					names = append(names, f.Path[strings.LastIndex(f.Path, "/")+1:])
				}
			}
			slices.Sort(names)
			listed(t, d, path, names...)
		}
	}
}

// P1.6, on a small disk: each raw write that is done, and all that it leaves as it was.
func TestWhole(t *testing.T) {
	for _, c := range []struct {
		w       write
		touched []string
		now     []api.File
	}{
		{write{kind: api.RawMkdir, path: "/a/x"}, []string{"/a/x"}, []api.File{dir("/a/x")}},
		{write{kind: api.RawWrite, path: "/a/x", data: "n"}, []string{"/a/x"}, []api.File{file("/a/x", "n")}},
		{write{kind: api.RawWrite, path: "/a/g", data: "n"}, []string{"/a/g"}, []api.File{file("/a/g", "n")}},
		{write{kind: api.RawRename, path: "/h", to: "/a/x"}, []string{"/h", "/a/x"}, []api.File{file("/a/x", "z")}},
		{write{kind: api.RawRename, path: "/h", to: "/a/g"}, []string{"/h", "/a/g"}, []api.File{file("/a/g", "z")}},
		{write{kind: api.RawRename, path: "/h", to: "/h"}, []string{"/h"}, []api.File{file("/h", "z")}},
		{write{kind: api.RawRemove, path: "/h"}, []string{"/h"}, nil},
		{write{kind: api.RawRemove, path: "/e"}, []string{"/e"}, nil},
	} {
		d := small(t)
		want := slices.DeleteFunc(d.All(), func(f api.File) bool { return slices.Contains(c.touched, f.Path) })
		want = append(want, c.now...)
		slices.SortFunc(want, func(a, b api.File) int { return strings.Compare(a.Path, b.Path) })
		answers(t, c.w.path, c.w.ask(d), api.OK)
		holds(t, d, want...)
		noted(t, d, c.w.raw())
		sound(t, d)
	}
}

// P1.7: nothing is left without its parent, and nothing comes to stand without one.
func TestSound(t *testing.T) {
	d := small(t)
	sound(t, d)
	for _, f := range d.All() {
		d.Remove(f.Path)
		sound(t, d)
		d.Rename("/h", f.Path+"/x")
		sound(t, d)
		d.Write(f.Path+"/y/z", "")
		sound(t, d)
		d.Rename(f.Path, "/x")
		sound(t, d)
	}
}

// P1.8: a disk that is cut behind n is as one on which the first n that would be done were done.
func TestCutBehind(t *testing.T) {
	for seed := range 8 {
		chance := &dice{uint64(1000 + seed)}
		var script []write
		for range 120 {
			script = append(script, chance.anyWrite())
		}
		for n := range 60 {
			cutBehind(t, script, n)
		}
	}
}

func cutBehind(t *testing.T, script []write, n int) {
	t.Helper()
	cut, whole := disk.New(), disk.New()
	cut.Cut(n)
	done := 0
	for _, w := range script {
		want := api.ErrDown
		if done < n {
			want = w.ask(whole)
		}
		answers(t, "a raw write ahead of, or behind the cut", w.ask(cut), want)
		if want == api.OK {
			done++
		}
		if cut.Down() != (done == n) {
			t.Fatalf("behind %d of %d: Down is %v", done, n, cut.Down())
		}
	}
	holds(t, cut, whole.All()...)
	noted(t, cut, whole.Raws()...)
	cut.Up()
	for _, w := range script {
		answers(t, "a raw write behind Up", w.ask(cut), w.ask(whole))
	}
	holds(t, cut, whole.All()...)
	noted(t, cut, whole.Raws()...)
}
