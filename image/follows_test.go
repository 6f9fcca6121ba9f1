package image_test

import (
	"slices"
	"strings"
	"testing"

	"halyard/api"
	"halyard/disk"
	"halyard/image"
	"halyard/tree"
	"halyard/walkup"
)

// all is states that may be: the edges, and such as look like chance.
func (s *source) all(count int) []api.State {
	l := []api.State{image.Empty(), pruned(image.Empty()), chapter(), pruned(chapter()), rich(), pruned(rich()), crowded(6), crowded(0), chain(slices.Repeat([]string{"a"}, 102)...)}
	return append(l, s.states(count)...)
}

// P15.1, P15.2: as the model, of states that may be and of such that may not.
func TestFilesAsModel(t *testing.T) {
	s := source(2)
	taken, refused := 0, 0
	for i := 0; i < 700 && !t.Failed(); i++ {
		for _, x := range []api.State{s.grown(), s.spoilt(s.grown()), s.spoilt(s.spoilt(s.grown()))} {
			if filesAsModel(t, x) {
				taken++
			} else {
				refused++
			}
		}
	}
	for _, x := range s.states(100) {
		filesAsModel(t, x)
		filesAsModel(t, s.spoilt(x))
	}
	if taken < 300 || refused < 300 {
		t.Error("too few of a kind:", taken, refused)
	}
}

// P15.2: as the model, of files that are a project's, or nearly.
func TestReadAsModel(t *testing.T) {
	s := source(3)
	taken, refused := 0, 0
	for _, x := range s.all(250) {
		l := filesOf(t, x)
		for range 8 {
			if readsAsModel(t, s.spoiltFiles(l)) {
				taken++
			} else {
				refused++
			}
		}
		if t.Failed() {
			return
		}
	}
	if taken < 200 || refused < 2000 {
		t.Error("too few of a kind:", taken, refused)
	}
}

// P15.3: Read of Files is the state, in whichever order they are handed in.
func TestReadOfFiles(t *testing.T) {
	s := source(4)
	dirs, twice := 0, 0
	for _, x := range s.all(400) {
		l := filesOf(t, x)
		reads(t, "there and back", l, x)
		reads(t, "there and back, in another order", s.shuffled(l), x)
		dirs += len(x.Tree.Dirs) - 1
		times := map[int]int{}
		for _, d := range x.Tree.Dirs {
			if times[d.Node]++; times[d.Node] == 2 {
				twice++
			}
		}
		if t.Failed() {
			return
		}
	}
	if dirs < 5000 || twice < 50 {
		t.Error("too few of a kind:", dirs, twice)
	}
}

// P15.3: Files of what Read takes is the list, in order.
func TestFilesOfRead(t *testing.T) {
	s := source(5)
	taken := 0
	check := func(l []api.File) {
		x, e := image.Read(l)
		if e != api.OK {
			return
		}
		taken++
		if got, e := image.Files(x); e != api.OK || !slices.Equal(got, inOrder(l)) {
			t.Fatalf("Files of Read(%s): %s, error %d", flat(l), flat(got), e)
		}
	}
	for _, x := range s.all(250) {
		l := filesOf(t, x)
		check(l)
		for range 8 {
			check(s.spoiltFiles(l))
		}
	}
	for range 20000 {
		check(s.anyFiles())
	}
	if taken < 500 {
		t.Error("too few:", taken)
	}
}

// P15.3: two states that may be and are not the same have not the same files.
func TestOneStateOneList(t *testing.T) {
	s := source(6)
	l := s.all(150)
	for _, x := range slices.Clone(l) {
		l = append(l, s.spoilt(x))
	}
	first := map[string]api.State{}
	for _, x := range l {
		files, e := image.Files(x)
		if e != api.OK {
			continue
		}
		key := whole(slices.Clip(files))
		if other, met := first[key]; met && !same(x, other) {
			t.Fatalf("%s and %s have the same files", flat(x), flat(other))
		}
		first[key] = x
	}
}

// loaded is a disk with the files of a state.
func loaded(t *testing.T, s api.State) *disk.Disk {
	t.Helper()
	l := filesOf(t, s)
	d, e := disk.Load(l)
	if e != api.OK {
		t.Fatalf("Load(%s): error %d", flat(l), e)
	}
	return d
}

// P15.4: what Files tells disk.Load takes, and tells again; that can be read.
func TestOnADisk(t *testing.T) {
	s := source(7)
	for _, x := range s.all(200) {
		d := loaded(t, x)
		if !slices.Equal(d.All(), filesOf(t, x)) {
			t.Fatalf("All: %s, not %s", flat(d.All()), flat(filesOf(t, x)))
		}
		reads(t, "what lies on a disk", d.All(), x)
	}
	// A path as long as may be.
	x := chain(slices.Repeat([]string{"nxxxxxx"}, 64)...)
	if d := loaded(t, x); d.Kind(strings.Repeat("/modules/nxxxxxx", 64)+"/package") != 1 {
		t.Error("the longest path is not there")
	}
}

// P13.4: of a project's files OnDisk finds what Look finds.
func TestLookupsOnDisk(t *testing.T) {
	s := source(8)
	met, none := 0, 0
	for _, x := range append(s.all(120), chain("a", "b", "a", "b", "c"), chain(slices.Repeat([]string{"nxxxxxx"}, 64)...)) {
		d := loaded(t, x)
		labels := append([]string{"c", "d", "p", "x", "y", "nxxxxxx", "zz", s.pick(noNames()...)}, few...)
		for from, dir := range x.Tree.Dirs {
			for _, label := range labels {
				at := walkup.Look(x.Tree, from, label)
				want := ""
				if at >= 0 {
					want = tree.Text(x.Tree.Dirs[at].Path)
					met++
				} else {
					none++
				}
				if got, ok := walkup.OnDisk(d, tree.Text(dir.Path), label); got != want || ok != (at >= 0) {
					t.Fatalf("OnDisk(%q, %q): %q, %v, not %q, in %s", tree.Text(dir.Path), label, got, ok, want, flat(paths(d.All())))
				}
			}
		}
	}
	if met < 5000 || none < 5000 {
		t.Error("too few of a kind:", met, none)
	}
}

// P15.1: Files takes what place makes of a solution (W1: lookups tell of each directory which node it is).
func TestSolvedStates(t *testing.T) {
	s := source(9)
	dirs := 0
	for range 300 {
		x := s.solved()
		l := filesOf(t, x)
		for _, d := range x.Tree.Dirs[1:] {
			dirs++
			if !slices.Contains(l, folder(textOf(d.Path))) {
				t.Fatalf("%s lacks %s", flat(paths(l)), textOf(d.Path))
			}
		}
	}
	if dirs < 1000 {
		t.Error("too few:", dirs)
	}
}
