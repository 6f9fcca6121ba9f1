package chart_test

import (
	"math"
	"slices"

	"halyard/api"
	"halyard/chart"
)

// source is numbers that look like chance, and are the same each time.
type source uint64

func (s *source) below(n int) int {
	*s = *s*6364136223846793005 + 1442695040888963407
	return int(uint64(*s) >> 33 % uint64(n))
}

// pick is one of a list.
func pick[T any](s *source, l ...T) T { return l[s.below(len(l))] }

// few is names that are near to one another.
var few = []string{"a", "a-", "a-b", "a0", "aa", "b", "b9", "modules"}

func stands(x api.Tree, path []string) bool {
	return slices.ContainsFunc(x.Dirs, func(d api.Dir) bool { return slices.Equal(d.Path, path) })
}

// someTree is a tree that may be, in any order in which it may be.
func (s *source) someTree() api.Tree {
	x := grown()
	for range s.below(pick(s, 5, 20, 60)) {
		up := x.Dirs[s.below(len(x.Dirs))].Path
		path := append(slices.Clone(up), pick(s, few...))
		if !stands(x, path) {
			x.Dirs = append(x.Dirs, dir(1+s.below(9), path...))
		}
	}
	return x
}

// anyTree is a tree that may be or not.
func (s *source) anyTree() api.Tree {
	x := s.someTree()
	at := s.below(len(x.Dirs))
	switch s.below(8) {
	case 0:
		x.Dirs = slices.Delete(x.Dirs, at, at+1)
	case 1:
		x.Dirs = append(x.Dirs, x.Dirs[at])
	case 2:
		x.Dirs[at].Node = pick(s, 0, 1, -1, math.MinInt)
	case 3:
		x.Dirs[at].Path = append(slices.Clone(x.Dirs[at].Path), pick(s, noNames()...))
	case 4:
		x.Dirs[at].Pack.Name = pick(s, few...)
	case 5:
		x.Dirs = slices.Insert(x.Dirs, at, dir(2, pick(s, few...), pick(s, few...)))
	case 6:
		slices.Reverse(x.Dirs[at:])
	}
	return x
}

// somePart is a number from -2^40 to 2^40.
func (s *source) somePart() int {
	const far = 1 << 40
	return pick(s, 0, 1, -1, 2, far, -far, far-1, 1-far, s.below(100)-50, (s.below(1<<21)<<20+s.below(1<<20))-far, far-s.below(1<<30), s.below(1<<30)-far)
}

// someFactor is a number from -1024 to 1024.
func (s *source) someFactor() int {
	return pick(s, 0, 1, -1, 1024, -1024, 1023, -1023, s.below(2049)-1024, s.below(20)-10)
}

// someDrawing is a drawing that may be, whose Paths need not be those of a tree.
func (s *source) someDrawing() []chart.Spot {
	var l []chart.Spot
	for range s.below(pick(s, 1, 3, 10, 258)) {
		var path []string
		for range s.below(4) {
			path = append(path, pick(s, few...))
		}
		l = append(l, chart.Spot{Path: path, X: s.somePart(), Y: s.somePart()})
	}
	return l
}

// someQuarters is any number, most often one near to 0.
func (s *source) someQuarters() int {
	return pick(s, s.below(20)-10, s.below(20)-10, pick(s, quarters()...), s.below(1<<31)<<31-s.below(1<<31)<<32+s.below(9))
}
