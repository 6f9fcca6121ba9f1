package tree_test

import (
	"fmt"
	"math"
	"slices"
	"strings"
	"testing"

	"halyard/api"
	"halyard/tree"
)

// The chapter's table.
func TestExamples(t *testing.T) {
	written(t, nil, "/")
	written(t, names("a b"), "/modules/a/modules/b")
	written(t, names("A"), "")
	reads(t, "/")
	reads(t, "/modules/a", "a")
	for _, s := range []string{"/modules", "/modules/a/", ""} {
		refuses(t, s)
	}
	x := grown("a", "a b")
	mayBe(t, "the table's tree", x)
	finds(t, x, names("a b"), 2)
	hasParent(t, x, 2, 1)
	hasInside(t, x, 0, 1)
	hasInside(t, x, 1, 2)
	mayNotBe(t, "no directories", api.Tree{})
	mayNotBe(t, "a b ahead of a", grown("a b", "a"))
}

// P12.1: trees that may be.
func TestTreesThatMayBe(t *testing.T) {
	mayBe(t, "the root", grown())
	mayBe(t, "one directory", grown("a"))
	mayBe(t, "some directories", base())
	mayBe(t, "names that fall", grown("c", "b", "a", "c b", "c a"))
	mayBe(t, "a package in its own modules", grown("a", "a a", "a a a"))
	mayBe(t, "a directory far behind the one that it stands in", grown("a", "b", "c", "d", "b b", "c b", "a b"))
	mayBe(t, "the name modules", grown("modules", "modules modules"))
	mayBe(t, "names of all kinds of bytes", grown("a-9z", "a-9z z", "z-", "abcdefghijklmnop"))
	mayBe(t, "one name at many depths", grown("b", "a", "a b", "a b b", "a b b a"))
}

// P12.1: a tree has its root first.
func TestRoot(t *testing.T) {
	for _, dirs := range [][]api.Dir{nil, {}, make([]api.Dir, 0, 3)} {
		mayNotBe(t, "no directories", api.Tree{Dirs: dirs})
	}
	mayNotBe(t, "no root", api.Tree{Dirs: []api.Dir{dir(1, "a")}})
	mayNotBe(t, "the root behind another one", api.Tree{Dirs: []api.Dir{dir(1, "a"), {}}})
	for _, x := range []api.Tree{grown(), base()} {
		for _, path := range []string{"a", "z", "modules", "a b"} {
			mayNotBe(t, "a root with a path", changed(x, func(x *api.Tree) { x.Dirs[0].Path = names(path) }))
		}
		mayNotBe(t, "a root with an empty name", changed(x, func(x *api.Tree) { x.Dirs[0].Path = []string{""} }))
		for _, n := range []int{1, -1, 2, math.MinInt, math.MaxInt} {
			mayNotBe(t, "a root with a node", changed(x, func(x *api.Tree) { x.Dirs[0].Node = n }))
		}
		for _, p := range []api.Package{{Name: "a"}, {Name: "A"}, {Version: version(1, 0, 0)}, {Version: version(0, 1, 0)}, {Version: version(0, 0, -1)},
			{Deps: deps("a")}, {Peers: deps("a")}, {Optional: deps("a")}, {Deps: []api.Dep{{}}}, {Peers: []api.Dep{{}}}, {Optional: []api.Dep{{}}}} {
			mayNotBe(t, "a root with a package", changed(x, func(x *api.Tree) { x.Dirs[0].Pack = p }))
		}
	}
	for at := 1; at <= len(base().Dirs); at++ {
		mayNotBe(t, "a second root", changed(base(), func(x *api.Tree) { x.Dirs = slices.Insert(x.Dirs, at, api.Dir{}) }))
		second := dir(1, "a")
		second.Path = nil
		mayNotBe(t, "a package without a path", changed(base(), func(x *api.Tree) { x.Dirs = slices.Insert(x.Dirs, at, second) }))
	}
}

// P12.1: names of paths, at every place in them, in trees in which all else is as it must be.
func TestNames(t *testing.T) {
	for _, bad := range noNames() {
		mayNotBe(t, "a name that may not be", changed(grown("a"), func(x *api.Tree) { x.Dirs[1] = dir(1, bad) }))
		for at := range 3 {
			path := names("a b c")
			path[at] = bad
			mayNotBe(t, "a name that may not be", chain(path...))
			// With a package that may be, at the end of a path that may not be.
			x := grown("a", "a b", "a b c")
			x.Dirs[3].Path = path
			mayNotBe(t, "a name that may not be", x)
		}
		mayNotBe(t, "a package's name that may not be", changed(base(), func(x *api.Tree) { x.Dirs[1].Pack.Name = bad }))
	}
}

// lengths is names, of so many bytes but for the last one, that have, as a path, a text of so many bytes.
func lengths(bytes, each int) []string {
	var path []string
	for left := bytes; left > 0; {
		n := left - len("/modules/")
		if n > api.MaxName {
			// Room for one name more stays.
			n = min(each, n-len("/modules/x"))
		}
		path, left = append(path, strings.Repeat("x", n)), left-len("/modules/")-n
	}
	return path
}

// P12.1: how long a path's text may be.
func TestPathLengths(t *testing.T) {
	for _, each := range []int{5, 8, 11, 16} {
		for bytes := 1000; bytes <= 1060; bytes++ {
			x := chain(lengths(bytes, each)...)
			text := tree.Text(x.Dirs[len(x.Dirs)-1].Path)
			if len(text) != bytes {
				t.Fatalf("a text of %d bytes, not %d", len(text), bytes)
			}
			if bytes <= 1024 {
				mayBe(t, fmt.Sprint(bytes, " bytes"), x)
			} else {
				mayNotBe(t, fmt.Sprint(bytes, " bytes"), x)
			}
		}
	}
	at := lengths(1024, 5)
	for _, long := range []string{at[len(at)-1] + "x", "abcdefghijklmnop"} {
		x := chain(at...)
		mayBe(t, "1024 bytes", x)
		last := append(slices.Clone(at[:len(at)-1]), long)
		mayNotBe(t, "a long path beside others", changed(x, func(x *api.Tree) { x.Dirs = append(x.Dirs, dir(1, last...), dir(1, "z")) }))
	}
	mayBe(t, "102 names", chain(slices.Repeat([]string{"a"}, 102)...))
	mayNotBe(t, "103 names", chain(slices.Repeat([]string{"a"}, 103)...))
	mayNotBe(t, "a path of many names alone", api.Tree{Dirs: []api.Dir{{}, dir(1, slices.Repeat([]string{"a"}, 103)...)}})
}

// P12.1: the directory in whose modules one stands is there, and ahead of it.
func TestAhead(t *testing.T) {
	for _, l := range [][]string{{"a b"}, {"a b", "a"}, {"b", "a b"}, {"b", "b a", "a b"}, {"a", "a b c"}, {"a", "a b c", "a b"}, {"a", "b", "a c b"}, {"a", "c", "a b c"}, {"a", "b a b"}, {"a-b", "a b"}, {"a", "a b", "a b c d"}} {
		mayNotBe(t, strings.Join(l, ", "), grown(l...))
	}
	x := base()
	for i := 1; i < len(x.Dirs); i++ {
		taken := clone(x)
		taken.Dirs = slices.Delete(taken.Dirs, i, i+1)
		want := api.OK
		if len(modelInside(x, i)) > 0 {
			want = api.ErrTree
		}
		answers(t, "a tree with one taken away", taken, want)
		last := clone(x)
		last.Dirs = append(slices.Delete(last.Dirs, i, i+1), x.Dirs[i])
		answers(t, "a tree with one put to the end", last, want)
	}
}

// P12.1: no path stands there twice, whatever its package and its node are.
func TestTwice(t *testing.T) {
	x := base()
	for i := 1; i < len(x.Dirs); i++ {
		for at := i + 1; at <= len(x.Dirs); at++ {
			again := clone(x)
			again.Dirs = slices.Insert(again.Dirs, at, clone(x).Dirs[i])
			mayNotBe(t, "a path twice", again)
			again.Dirs[at].Node = 99
			mayNotBe(t, "a path twice, with another node", again)
			again.Dirs[at].Pack.Version = version(7, 7, 7)
			mayNotBe(t, "a path twice, with another package", again)
		}
	}
	mayNotBe(t, "one twice", grown("a", "a"))
	mayBe(t, "a name that begins alike", grown("a", "aa", "a-a", "a a", "aa a"))
	mayBe(t, "a package twice", grown("a", "b", "a b", "b a"))
	x = grown("a", "b", "a b", "b a")
	x.Dirs[3].Node, x.Dirs[4].Node = x.Dirs[2].Node, x.Dirs[1].Node
	mayBe(t, "a node twice", x)
}

// P12.1: a directory's package may be, and has its path's last name.
func TestPacks(t *testing.T) {
	x := base()
	for i := 1; i < len(x.Dirs); i++ {
		path := x.Dirs[i].Path
		last := path[len(path)-1]
		for what, p := range noPacks(last) {
			mayNotBe(t, what, changed(x, func(x *api.Tree) { x.Dirs[i].Pack = p }))
		}
		for _, name := range []string{"", last + "x", "z", strings.ToUpper(last), "modules"} {
			mayNotBe(t, "a package of another name", changed(x, func(x *api.Tree) { x.Dirs[i].Pack.Name = name }))
		}
		if len(path) > 1 && path[0] != last {
			mayNotBe(t, "a package of the first name", changed(x, func(x *api.Tree) { x.Dirs[i].Pack.Name = path[0] }))
		}
		mayNotBe(t, "no package", changed(x, func(x *api.Tree) { x.Dirs[i].Pack = api.Package{} }))
		for _, v := range []api.Version{{}, version(999, 999, 999)} {
			mayBe(t, "any version", changed(x, func(x *api.Tree) { x.Dirs[i].Pack = api.Package{Name: last, Version: v, Deps: deps(last)} }))
		}
	}
}

// P12.1: a directory's node is above 0; it may be any such number.
func TestNodes(t *testing.T) {
	for i := 1; i < len(base().Dirs); i++ {
		for _, n := range []int{0, -1, -2, math.MinInt, math.MinInt32} {
			mayNotBe(t, "a node of 0 or below", changed(base(), func(x *api.Tree) { x.Dirs[i].Node = n }))
		}
		for _, n := range []int{1, 2, 127, 128, 129, 1000, math.MaxInt32, math.MaxInt} {
			mayBe(t, "a node above 0", changed(base(), func(x *api.Tree) { x.Dirs[i].Node = n }))
		}
	}
}

// P12.1: how many directories there may be beside the root.
func TestManyDirectories(t *testing.T) {
	for _, count := range []int{1, 128, 255, 256, 257, 258, 300, 1000} {
		wide, deep := grown(), chain(slices.Repeat([]string{"a"}, min(count, 100))...)
		for i, n := range numbered(count) {
			wide.Dirs = append(wide.Dirs, dir(i+1, n))
			if len(deep.Dirs) <= count {
				up := deep.Dirs[i%99+1].Path
				deep.Dirs = append(deep.Dirs, dir(i+1, append(slices.Clone(up), n)...))
			}
		}
		for what, x := range map[string]api.Tree{"wide": wide, "deep": deep} {
			if len(x.Dirs) != count+1 {
				t.Fatalf("%s: %d directories, not %d", what, len(x.Dirs), count+1)
			}
			want := api.OK
			if count > 256 {
				want = api.ErrTree
			}
			answers(t, fmt.Sprint(count, " directories, ", what), x, want)
		}
	}
}

// P12.1: trees that may be, and such as differ from them a little, are as the model tells.
func TestAsModel(t *testing.T) {
	s := source(1)
	met := map[int]int{}
	for range 2000 {
		x := s.someTree()
		mayBe(t, "a tree by chance", x)
		for range 5 {
			x = s.spoilt(x)
			number := broken(x)
			met[number]++
			want := api.OK
			if number > 0 {
				want = api.ErrTree
			}
			answers(t, fmt.Sprint("a tree that breaks condition ", number), x, want)
		}
	}
	for _, number := range []int{0, 1, 2, 3, 4, 5, 6, 7, 8} {
		if met[number] < 50 {
			t.Errorf("%d trees broke condition %d", met[number], number)
		}
	}
}

// spoilt is a tree that differs a little.
func (s *source) spoilt(t api.Tree) api.Tree {
	t = clone(t)
	if len(t.Dirs) == 0 {
		return t
	}
	at := max(s.below(len(t.Dirs)), s.below(len(t.Dirs)))
	d := &t.Dirs[at]
	switch s.below(10) {
	case 0:
		d.Node = s.below(3) - 1
	case 1:
		d.Pack = s.somePack(s.pick(few...))
	case 2:
		d.Path = append(d.Path, s.pick(few...))
	case 3:
		t.Dirs = slices.Delete(t.Dirs, at, at+1)
	case 4:
		t.Dirs = append(t.Dirs, *d)
	case 5:
		return s.shuffled(t)
	case 6:
		path := append(d.Path, s.pick(noNames()...))
		t.Dirs = append(t.Dirs, api.Dir{Path: path, Pack: s.somePack("a"), Node: 1})
	case 7:
		// As long as may be, or one more.
		path := lengths(1024+s.below(2), 16)
		for i := range path {
			t.Dirs = append(t.Dirs, dir(1, slices.Clone(path[:i+1])...))
		}
	case 8:
		d.Pack.Version.Minor = 999 + s.below(2)
	case 9:
		d.Pack.Name = s.pick(few...)
	}
	return t
}
