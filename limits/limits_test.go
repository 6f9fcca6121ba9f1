package limits_test

import (
	"math"
	"testing"

	"halyard/api"
	"halyard/limits"
)

// least and greatest are the ends of what may be.
var (
	least    = api.Limits{Decisions: 1, Nodes: 1, Dirs: 1, Path: 1}
	greatest = api.Limits{Decisions: 4096, Nodes: 128, Dirs: 256, Path: 1024}
)

// Both ends may be.
func TestEnds(t *testing.T) {
	for _, l := range []api.Limits{least, greatest, {Decisions: 100, Nodes: 20, Dirs: 20, Path: 200}} {
		if !limits.May(l) || !limits.MaySearch(l) || !limits.MayPlace(l) {
			t.Errorf("%+v may not be", l)
		}
	}
}

// One limit beyond its ends is enough; a search and a tree have two of the four each.
func TestBeyond(t *testing.T) {
	for i := range 4 {
		for _, l := range []api.Limits{least, greatest} {
			of := []*int{&l.Decisions, &l.Nodes, &l.Dirs, &l.Path}[i]
			most := []int{4096, 128, 256, 1024}[i]
			for _, n := range []int{0, most + 1, -1, math.MinInt, math.MaxInt} {
				*of = n
				if limits.May(l) || limits.MaySearch(l) != (i > 1) || limits.MayPlace(l) != (i < 2) {
					t.Errorf("%+v: %v, a search's %v, a tree's %v", l, limits.May(l), limits.MaySearch(l), limits.MayPlace(l))
				}
			}
		}
	}
	if limits.May(api.Limits{}) || limits.MaySearch(api.Limits{}) || limits.MayPlace(api.Limits{}) {
		t.Error("no limits may be")
	}
}
