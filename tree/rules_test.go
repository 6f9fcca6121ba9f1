package tree_test

import (
	"fmt"
	"math"
	"slices"
	"strings"
	"testing"
	"unsafe"

	"halyard/api"
	"halyard/tree"
)

// R1: every call ends and none panics, at all arguments, and answers as the model does.
func TestEveryCallEnds(t *testing.T) {
	s := source(8)
	for range 3000 {
		x, other := s.anyTree(), s.anyTree()
		askedAsModel(t, x)
		same(t, "much", x, other, modelSame(x, other))
		for _, at := range []int{math.MinInt, math.MaxInt, -7, s.below(1 << 30)} {
			hasParent(t, x, at, modelParent(x, at))
			hasInside(t, x, at, modelInside(x, at)...)
		}
		if len(x.Dirs) > 0 {
			// With a root it gets further.
			x.Dirs[0] = api.Dir{}
			askedAsModel(t, x)
		}
	}
}

// great is trees of many directories that may not be.
func great(many int) map[string]api.Tree {
	var wide, twice, packs, deep api.Tree
	for i := range many {
		wide.Dirs = append(wide.Dirs, dir(1, fmt.Sprintf("n%07d", many-i)))
		twice.Dirs = append(twice.Dirs, dir(1, "a", "b"))
		packs.Dirs = append(packs.Dirs, api.Dir{Path: names("a"), Pack: api.Package{Name: "a", Optional: []api.Dep{{Name: "b", Range: []api.Span{{Hi: version(i*7919%many, 0, 0)}}}}}})
	}
	path := slices.Repeat([]string{"a"}, 1000)
	for i := range path {
		deep.Dirs = append(deep.Dirs, api.Dir{Path: path[:i]})
	}
	return map[string]api.Tree{"wide": wide, "with one path": twice, "with many packages at a path": packs, "deep": deep}
}

// Great things that may not be are answered as soon as small ones.
func TestGreatThings(t *testing.T) {
	for what, x := range great(1 << 17) {
		mayNotBe(t, "a tree "+what, x)
		turned := clone(x)
		slices.Reverse(turned.Dirs)
		if !tree.Same(x, turned) {
			t.Errorf("a tree %s is not the same in another order", what)
		}
		turned.Dirs[len(turned.Dirs)/2].Pack.Name = "other"
		if tree.Same(x, turned) || tree.Same(turned, x) {
			t.Errorf("a tree %s is the same with another package", what)
		}
		middle := x.Dirs[len(x.Dirs)/2].Path
		if at := tree.Find(x, middle); at < 0 || flatPath(x.Dirs[at].Path) != flatPath(middle) {
			t.Errorf("Find in a tree %s: %d", what, at)
		}
		rooted := api.Tree{Dirs: append([]api.Dir{{}}, x.Dirs...)}
		mayNotBe(t, "a tree with a root "+what, rooted)
		l := tree.Inside(rooted, 0)
		for i, at := range l {
			if i > 0 && (rooted.Dirs[l[i-1]].Path[0] > rooted.Dirs[at].Path[0] || rooted.Dirs[l[i-1]].Path[0] == rooted.Dirs[at].Path[0] && l[i-1] >= at) {
				t.Fatalf("Inside of a tree %s: %d behind %d", what, at, l[i-1])
			}
		}
	}
	mayNotBe(t, "a great path", api.Tree{Dirs: []api.Dir{{}, dir(1, slices.Repeat([]string{"a"}, 1<<20)...)}})
	mayNotBe(t, "a great name", api.Tree{Dirs: []api.Dir{{}, dir(1, strings.Repeat("a", 1<<24))}})
	many := dir(1, "a")
	many.Pack.Deps = make([]api.Dep, 1<<20)
	mayNotBe(t, "a great package", api.Tree{Dirs: []api.Dir{{}, many}})
}

// R1: a tree as great as may be is told soon enough.
func TestFull(t *testing.T) {
	x := chain(lengths(1024, 5)...)
	deepest := len(x.Dirs) - 2
	for i := 0; len(x.Dirs) <= api.MaxDirs; i++ {
		path := append(slices.Clone(x.Dirs[deepest-i%20-1].Path), fmt.Sprintf("y%d", i))
		x.Dirs = append(x.Dirs, dir(1, path...))
	}
	mayBe(t, "a full tree", x)
	for i := 1; i < len(x.Dirs); i++ {
		mayNotBe(t, "a full tree with one changed", changed(x, func(x *api.Tree) { x.Dirs[i].Node = 0 }))
	}
	isAbove(t, x)
}

// inRoom is a list with marks in its spare room.
func inRoom[T any](l []T, mark T) []T { return slices.Concat(l, []T{mark, mark, mark})[:len(l)] }

// roomy is a tree with marks in the spare room of its lists, at every depth.
func roomy(t api.Tree) api.Tree {
	room := api.Tree{Dirs: inRoom(t.Dirs, api.Dir{Node: 77})}
	for i := range room.Dirs {
		d := &room.Dirs[i]
		d.Path = inRoom(d.Path, "mark")
		for _, l := range listsOf(&d.Pack) {
			*l = inRoom(*l, api.Dep{Name: "mark"})
			for j, dep := range *l {
				(*l)[j].Range = inRoom(dep.Range, api.Span{Lo: version(-7, 0, 0)})
			}
		}
	}
	return room
}

// whole is a tree and its spare room, at every depth, as a text.
func whole(t api.Tree) string {
	s := ""
	for _, d := range t.Dirs[:cap(t.Dirs)] {
		s += fmt.Sprintf("%q %q %v %d ", d.Path[:cap(d.Path)], d.Pack.Name, d.Pack.Version, d.Node)
		for _, l := range listsOf(&d.Pack) {
			for _, dep := range (*l)[:cap(*l)] {
				s += fmt.Sprint(dep.Name, dep.Range[:cap(dep.Range)])
			}
		}
	}
	return s
}

// spoil writes over a list and its spare room.
func spoil[T any](l []T, with T) {
	l = l[:cap(l)]
	for i := range l {
		l[i] = with
	}
}

// spoilAll asks all that may be asked, and writes over all that is told.
func spoilAll(x, other api.Tree) {
	tree.Check(x)
	tree.Same(x, other)
	tree.Same(other, x)
	for at := -1; at <= len(x.Dirs); at++ {
		tree.Parent(x, at)
		spoil(tree.Inside(x, at), -99)
	}
	for _, d := range x.Dirs {
		tree.Find(x, d.Path)
		path, _ := tree.Parse(tree.Text(d.Path))
		spoil(path, "spoilt")
	}
}

// R4: what is handed in stays as it is, its spare room too, whoever writes into what was told.
func TestHandedInStays(t *testing.T) {
	s := source(9)
	for range 300 {
		for _, x := range []api.Tree{s.someTree(), s.shuffled(s.someTree()), s.spoilt(s.someTree()), s.anyTree()} {
			given, other := roomy(x), roomy(s.spoilt(x))
			want, wantOther := whole(given), whole(other)
			spoilAll(given, other)
			if got := whole(given); got != want {
				t.Fatalf("what was handed in is changed: %s, not %s", got, want)
			}
			if got := whole(other); got != wantOther {
				t.Fatalf("what was handed in is changed: %s, not %s", got, wantOther)
			}
		}
	}
}

// R4: a path that Text and Find are handed stays as it is, its spare room too.
func TestPathStays(t *testing.T) {
	for _, path := range [][]string{nil, {"a"}, {"b", "c"}, {"A"}, {"b", ""}} {
		l := inRoom(path, "mark")
		want := fmt.Sprintf("%q", l[:cap(l)])
		tree.Text(l)
		tree.Find(base(), l)
		if got := fmt.Sprintf("%q", l[:cap(l)]); got != want {
			t.Errorf("the path is %s, not %s", got, want)
		}
	}
}

// R4: what is answered is new memory: whoever writes into it changes nothing of what is told later, or was told before, and it stays when what was handed in is changed.
func TestAnswersAreNew(t *testing.T) {
	s := source(10)
	for range 300 {
		x := s.someTree()
		var inside [][]int
		var texts []string
		var paths [][]string
		look := func() string { return fmt.Sprint(inside, texts, paths) }
		ask := func() {
			inside, texts, paths = nil, nil, nil
			for at, d := range x.Dirs {
				text := tree.Text(d.Path)
				path, _ := tree.Parse(text)
				inside, texts, paths = append(inside, tree.Inside(x, at)), append(texts, text), append(paths, path)
			}
		}
		ask()
		want := look()
		spoilAll(x, x)
		if look() != want {
			t.Fatalf("what was told is changed: %s, not %s", look(), want)
		}
		ask()
		if look() != want {
			t.Fatalf("what is told later is changed: %s, not %s", look(), want)
		}
		for i := range x.Dirs {
			spoil(x.Dirs[i].Path, "spoilt")
			x.Dirs[i] = api.Dir{}
		}
		if look() != want {
			t.Fatalf("what was told is changed by what was handed in: %s, not %s", look(), want)
		}
	}
}

// R4: no name that Parse tells stands in the memory of its text, or of another answer.
func TestTextsAreNew(t *testing.T) {
	text := string([]byte("/modules/abc/modules/abc/modules/left-pad"))
	begin := uintptr(unsafe.Pointer(unsafe.StringData(text)))
	times := map[*byte]int{}
	for range 3 {
		path, ok := tree.Parse(text)
		if !ok || len(path) != 3 {
			t.Fatal(path, ok)
		}
		for _, name := range path {
			at := unsafe.StringData(name)
			if n := uintptr(unsafe.Pointer(at)); n >= begin && n < begin+uintptr(len(text)) || times[at] > 0 {
				t.Errorf("the name %s stands where another one does", name)
			}
			times[at]++
		}
	}
}

// R4: nil and empty lists are one.
func TestNilAndEmpty(t *testing.T) {
	for _, path := range [][]string{nil, {}, make([]string, 0, 5)} {
		for _, l := range [][]api.Dep{nil, {}, make([]api.Dep, 0, 5)} {
			x := grown("a", "a b")
			x.Dirs[0].Path, x.Dirs[0].Pack = path, api.Package{Deps: l, Peers: l, Optional: l}
			x.Dirs[2].Pack.Deps, x.Dirs[2].Pack.Peers, x.Dirs[2].Pack.Optional = l, l, l
			mayBe(t, "empty lists", x)
			same(t, "empty lists", x, grown("a", "a b"), true)
			finds(t, x, nil, 0)
			finds(t, grown("a"), path, 0)
			hasParent(t, x, 0, -1)
			hasParent(t, x, 1, 0)
			hasInside(t, x, 0, 1)
			mayNotBe(t, "no path", changed(grown("a"), func(x *api.Tree) { x.Dirs[1].Path = path }))
		}
	}
	for _, dirs := range [][]api.Dir{nil, {}, make([]api.Dir, 0, 5)} {
		x := api.Tree{Dirs: dirs}
		same(t, "no directories", x, api.Tree{}, true)
		same(t, "the root", x, grown(), false)
		finds(t, x, nil, -1)
		hasParent(t, x, 0, -1)
		hasInside(t, x, 0)
	}
}

// R5: what is told is the same each time it is asked, whatever room there is.
func TestSameAgain(t *testing.T) {
	s := source(11)
	for range 300 {
		for _, x := range []api.Tree{s.someTree(), s.spoilt(s.someTree()), s.anyTree()} {
			room := roomy(x)
			answers(t, "the same again", room, tree.Check(x))
			same(t, "nothing changed", x, room, true)
			for at := range x.Dirs {
				hasInside(t, room, at, tree.Inside(x, at)...)
				hasParent(t, room, at, tree.Parent(x, at))
				finds(t, room, x.Dirs[at].Path, tree.Find(x, x.Dirs[at].Path))
				written(t, room.Dirs[at].Path, tree.Text(x.Dirs[at].Path))
			}
		}
	}
}

// The limits and errors of this layer.
func TestLimits(t *testing.T) {
	if api.MaxDirs != 256 || api.MaxPath != 1024 || api.MaxName != 16 || api.OK != 0 || api.ErrTree != 42 {
		t.Error("limits:", api.MaxDirs, api.MaxPath, api.MaxName, api.OK, api.ErrTree)
	}
}
