package tree_test

import (
	"math"
	"slices"
	"strconv"
	"testing"

	"halyard/api"
	"halyard/tree"
)

// noPlaces is places that a tree of so many directories has not.
func noPlaces(count int) []int {
	return []int{-1, -2, -count, math.MinInt, math.MinInt32, count, count + 1, math.MaxInt32, math.MaxInt}
}

// P12.3: Find.
func TestFind(t *testing.T) {
	x := base()
	for i, d := range x.Dirs {
		finds(t, x, d.Path, i)
		finds(t, x, append(slices.Clone(d.Path), "z"), -1)
	}
	finds(t, x, nil, 0)
	finds(t, x, []string{}, 0)
	for _, path := range [][]string{{""}, {"z"}, {"A"}, {"c"}, {"b", ""}, {"", "b"}, {"b c"}, {"b/c"}, {"b/modules/c"}, {"c", "b"}, {"b", "c", "d", "e"}, {"a", "c"}, {"modules", "b"}} {
		finds(t, x, path, -1)
	}
	for _, path := range [][]string{nil, {"a"}} {
		finds(t, api.Tree{}, path, -1)
	}
}

// P12.3: Find in trees that may not be: the first place, whatever names there are.
func TestFindInAny(t *testing.T) {
	x := laid(names("a"), names("a b"), nil, names("a"), []string{""}, []string{"", ""}, []string{"A", "\xff"}, nil, []string{"a", ""}, names("a b"), []string{"a b"}, []string{"ab"})
	finds(t, x, names("a"), 0)
	finds(t, x, names("a b"), 1)
	finds(t, x, nil, 2)
	finds(t, x, []string{""}, 4)
	finds(t, x, []string{"", ""}, 5)
	finds(t, x, []string{"A", "\xff"}, 6)
	finds(t, x, []string{"a", ""}, 8)
	finds(t, x, []string{"a b"}, 10)
	finds(t, x, []string{"ab"}, 11)
	finds(t, x, []string{"", "", ""}, -1)
	finds(t, x, []string{"b"}, -1)
	finds(t, laid(names("a")), nil, -1)
}

// P12.3: Parent.
func TestParent(t *testing.T) {
	x := base()
	for i, want := range []int{-1, 0, 0, 1, 0, 1, 3, 2, 2} {
		hasParent(t, x, i, want)
	}
	for _, at := range noPlaces(len(x.Dirs)) {
		hasParent(t, x, at, -1)
	}
	for _, at := range append(noPlaces(0), 0) {
		hasParent(t, api.Tree{}, at, -1)
	}
}

// P12.3: Parent in trees that may not be: the first of several, ahead or behind, or none.
func TestParentInAny(t *testing.T) {
	x := laid(names("a b"), names("a"), nil, names("a"), nil, names("c d"), []string{"A", "B"}, []string{"A"}, []string{""}, []string{"", ""}, []string{"a", "b", ""})
	for i, want := range []int{1, 2, -1, 2, -1, -1, 7, 2, 2, 8, 0} {
		hasParent(t, x, i, want)
	}
	hasParent(t, laid(names("a")), 0, -1)
	hasParent(t, laid(nil, nil), 1, -1)
}

// P12.3: Inside: by names rising byte by byte.
func TestInside(t *testing.T) {
	x := base()
	for i, want := range [][]int{{2, 4, 1}, {5, 3}, {8, 7}, {6}, nil, nil, nil, nil, nil} {
		hasInside(t, x, i, want...)
	}
	for _, at := range noPlaces(len(x.Dirs)) {
		hasInside(t, x, at)
	}
	for _, at := range append(noPlaces(0), 0) {
		hasInside(t, api.Tree{}, at)
	}
	hasInside(t, grown(), 0)
	hasInside(t, grown("b", "a0", "aa", "a", "a-", "x9", "x10", "a-b"), 0, 4, 5, 8, 2, 3, 1, 7, 6)
	hasInside(t, grown("c", "c b", "c a", "a", "c b a", "b", "c c"), 1, 3, 2, 7)
}

// P12.3: Inside in trees that may not be: by place, where names are the same; of each place with that path.
func TestInsideInAny(t *testing.T) {
	x := laid(names("b"), names("a"), nil, names("b"), names("a b"), names("a"), nil, names("a a"), names("a b"), names("b"), names("a b c"))
	for at, want := range [][]int{nil, {7, 4, 8}, {1, 5, 0, 3, 9}, nil, {10}, {7, 4, 8}, {1, 5, 0, 3, 9}, nil, {10}, nil, nil} {
		hasInside(t, x, at, want...)
	}
	odd := laid(nil, []string{"z"}, []string{"\xff"}, []string{""}, []string{"\u00e9"}, []string{"Z"}, []string{"\x00"}, []string{"a"}, []string{"-"}, []string{"0"}, []string{"", ""}, []string{"zz"}, []string{"Z"})
	hasInside(t, odd, 0, 3, 6, 8, 9, 5, 12, 7, 1, 11, 4, 2)
	hasInside(t, odd, 3, 10)
	hasInside(t, laid(names("a b"), names("c d")), 0)
	hasInside(t, laid(names("a b c"), names("a b")), 1, 0)
}

// P12.3: Inside of many directories, all of one name or of few, is by place.
func TestInsideByPlace(t *testing.T) {
	var x api.Tree
	var of [3][]int
	for i := range 3000 {
		of[i*i%3] = append(of[i*i%3], i+1)
		x.Dirs = append(x.Dirs, api.Dir{Path: []string{strconv.Itoa(i * i % 3)}})
	}
	x.Dirs = append([]api.Dir{{}}, x.Dirs...)
	hasInside(t, x, 0, slices.Concat(of[0], of[1], of[2])...)
}

// P12.3: Same looks at paths and packages, in whatever order they stand.
func TestSame(t *testing.T) {
	same(t, "no directories", api.Tree{}, api.Tree{}, true)
	same(t, "the root alone", api.Tree{}, grown(), false)
	x := base()
	same(t, "nothing changed", x, clone(x), true)
	turned := clone(x)
	slices.Reverse(turned.Dirs)
	same(t, "another order", x, turned, true)
	for i := range x.Dirs {
		same(t, "one less", x, changed(x, func(x *api.Tree) { x.Dirs = slices.Delete(x.Dirs, i, i+1) }), false)
		same(t, "one twice", x, changed(x, func(x *api.Tree) { x.Dirs = append(x.Dirs, x.Dirs[i]) }), true)
		same(t, "one twice, ahead of all", x, changed(x, func(x *api.Tree) { x.Dirs = slices.Insert(x.Dirs, 0, x.Dirs[i], x.Dirs[i]) }), true)
		same(t, "another path", x, changed(x, func(x *api.Tree) { x.Dirs[i].Path = append(x.Dirs[i].Path, "z") }), false)
		same(t, "another one in its place", x, changed(x, func(x *api.Tree) { x.Dirs[i] = x.Dirs[(i+1)%len(x.Dirs)] }), false)
		same(t, "one more with that package", x, changed(x, func(x *api.Tree) { x.Dirs = append(x.Dirs, api.Dir{Path: names("z z"), Pack: x.Dirs[i].Pack}) }), false)
		for _, p := range otherPacks(x.Dirs[i].Pack) {
			same(t, "another package", x, changed(x, func(x *api.Tree) { x.Dirs[i].Pack = p }), false)
			same(t, "another package at that path", x, changed(x, func(x *api.Tree) { x.Dirs = append(x.Dirs, api.Dir{Path: x.Dirs[i].Path, Pack: p}) }), false)
		}
	}
}

// otherPacks is packages that differ from one in one thing alone.
func otherPacks(p api.Package) []api.Package {
	var l []api.Package
	change := func(f func(p *api.Package)) {
		q := clone(api.Tree{Dirs: []api.Dir{{Pack: p}}}).Dirs[0].Pack
		f(&q)
		l = append(l, q)
	}
	change(func(p *api.Package) { p.Name += "x" })
	change(func(p *api.Package) { p.Version.Major++ })
	change(func(p *api.Package) { p.Version.Minor-- })
	change(func(p *api.Package) { p.Version.Patch = 1000 })
	for i := range 3 {
		change(func(p *api.Package) { to := listsOf(p)[i]; *to = append(*to, deps("x")...) })
		change(func(p *api.Package) { to := listsOf(p)[i]; *to = append(*to, api.Dep{}) })
		if len(*listsOf(&p)[i]) == 0 {
			continue
		}
		change(func(p *api.Package) { *listsOf(p)[i] = nil })
		change(func(p *api.Package) { to := listsOf(p)[i]; *to = (*to)[1:] })
		change(func(p *api.Package) { slices.Reverse(*listsOf(p)[i]) })
		change(func(p *api.Package) { (*listsOf(p)[i])[1].Name = "x" })
		change(func(p *api.Package) { (*listsOf(p)[i])[0].Range = nil })
		change(func(p *api.Package) { (*listsOf(p)[i])[1].Range[0].Lo.Patch++ })
		change(func(p *api.Package) { (*listsOf(p)[i])[1].Range[0].Hi.Minor-- })
	}
	if len(p.Deps) > 0 {
		change(func(p *api.Package) { p.Deps, p.Peers = p.Peers, p.Deps })
		change(func(p *api.Package) { p.Peers, p.Optional = p.Optional, p.Peers })
	}
	return l
}

// P12.3: Same does not look at nodes.
func TestSameWithoutNodes(t *testing.T) {
	x := base()
	for i := range x.Dirs {
		for _, n := range []int{0, 1, 99, -1, math.MinInt, math.MaxInt} {
			same(t, "another node", x, changed(x, func(x *api.Tree) { x.Dirs[i].Node = n }), true)
			same(t, "one twice with another node", x, changed(x, func(x *api.Tree) { x.Dirs = append(x.Dirs, x.Dirs[i]); x.Dirs[i].Node = n }), true)
		}
	}
}

// P12.3: Same of trees that may not be: what stands there twice counts once; one path may have several packages.
func TestSameOfAny(t *testing.T) {
	one, two, three := api.Dir{Path: names("a"), Pack: api.Package{Name: "x"}}, api.Dir{Path: names("a"), Pack: api.Package{Name: "y"}}, api.Dir{Path: []string{"A", ""}, Pack: api.Package{Name: "x"}}
	of := func(l ...api.Dir) api.Tree { return api.Tree{Dirs: l} }
	same(t, "one twice", of(one), of(one, one), true)
	same(t, "each twice", of(one, two, two), of(two, one, one), true)
	same(t, "each twice, in turns", of(one, two, one, two, three), of(three, three, two, one), true)
	same(t, "two packages at a path", of(one), of(one, two), false)
	same(t, "two packages at a path, in turns", of(one, one, two), of(one, three, two), false)
	same(t, "a package at two paths", of(one, one), of(one, three), false)
	same(t, "nothing in common", of(one), of(two), false)
	same(t, "as many, of others", of(one, two), of(one, three), false)
	same(t, "no directories", of(), of(one), false)
	// Paths that would be one, were their names put together.
	paths := laid(names("a b"), []string{"ab"}, []string{"a b"}, []string{"a", "b", ""}, []string{"", "a", "b"}, []string{"a/b"}, []string{"b", "a"}, nil, []string{""}, []string{"", ""})
	for i := range paths.Dirs {
		for j := range paths.Dirs {
			same(t, "one path", of(paths.Dirs[i]), of(paths.Dirs[j]), i == j)
		}
	}
}

// P12.3: Same of packages that differ in one thing alone, all at one path, in turns.
func TestSameInTurns(t *testing.T) {
	l := otherPacks(base().Dirs[3].Pack)
	of := func(l ...api.Package) api.Tree {
		var x api.Tree
		for _, p := range l {
			x.Dirs = append(x.Dirs, api.Dir{Path: names("b c"), Pack: p})
		}
		return x
	}
	for i, p := range l {
		for j, q := range l {
			same(t, "two packages in turns", of(p, q, p, q), of(q, p, q), true)
			same(t, "two packages and one", of(p, q, p), of(p, p), i == j)
		}
	}
	all := of(append(slices.Clone(l), l...)...)
	s := source(12)
	for range 100 {
		same(t, "all packages in turns", all, s.shuffled(all), true)
		same(t, "all packages but one", all, changed(s.shuffled(of(l...)), func(x *api.Tree) { x.Dirs = x.Dirs[1:] }), false)
	}
}

// P12.3: Same of trees of few directories, taken by chance, is as the model tells.
func TestSameAsModel(t *testing.T) {
	s := source(3)
	var all []api.Dir
	for _, path := range []string{"", "a", "b", "a b"} {
		for _, p := range append(otherPacks(base().Dirs[3].Pack)[:2], api.Package{}) {
			all = append(all, api.Dir{Path: names(path), Pack: p})
		}
	}
	met := map[bool]int{}
	for range 20000 {
		var l [2]api.Tree
		most := 1 + s.below(len(all))
		for i := range l {
			for range s.below(12) {
				d := all[s.below(most)]
				d.Node = s.below(3)
				l[i].Dirs = append(l[i].Dirs, d)
			}
		}
		want := modelSame(l[0], l[1])
		met[want]++
		same(t, "much", l[0], l[1], want)
	}
	if met[true] < 1000 || met[false] < 1000 {
		t.Error(met)
	}
}

// P12.3: what is asked of trees that may be, and of any others, is answered as the model does.
func TestAskedAsModel(t *testing.T) {
	s := source(4)
	for range 300 {
		for _, x := range []api.Tree{s.someTree(), s.shuffled(s.someTree()), s.spoilt(s.someTree()), s.anyTree()} {
			askedAsModel(t, x)
			other := s.spoilt(x)
			same(t, "something or nothing", x, other, modelSame(x, other))
			same(t, "another order", x, s.shuffled(x), true)
		}
	}
	if tree.Check(api.Tree{}) != api.ErrTree {
		t.Error("a tree of nothing")
	}
}
