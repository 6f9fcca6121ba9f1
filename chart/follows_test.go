package chart_test

import (
	"testing"

	"halyard/api"
	"halyard/chart"
)

// must is what a call told, which is no error.
func must(t *testing.T) func(l []chart.Spot, e api.Errno) []chart.Spot {
	return func(l []chart.Spot, e api.Errno) []chart.Spot {
		t.Helper()
		if e != api.OK {
			t.Fatalf("error %d", e)
		}
		return l
	}
}

// 'What follows': two directories of one tree never stand at one point.
func TestNoTwoAtOnePoint(t *testing.T) {
	s := source(4)
	trees := []api.Tree{grown(), chapter(), wide(256), chain(102), full()}
	for range 1500 {
		trees = append(trees, s.someTree())
	}
	for _, x := range trees {
		type point struct{ x, y int }
		met := map[point][]string{}
		for _, spot := range drawn(t, x, s.someQuarters()) {
			p := point{spot.X, spot.Y}
			if other, ok := met[p]; ok {
				t.Fatalf("%q and %q stand at %v", spot.Path, other, p)
			}
			met[p] = spot.Path
		}
	}
}

// 'What follows': four quarters are none; a turn by p and one by q are one by p + q.
func TestQuartersAdd(t *testing.T) {
	s := source(5)
	all := must(t)
	for range 2000 {
		l := s.someDrawing()
		turns(t, l, 0, l)
		turns(t, l, 4, l)
		turns(t, l, -4, l)
		p, q := s.someQuarters(), s.someQuarters()
		both := all(chart.Turn(all(chart.Turn(l, p)), q))
		// Where p + q is no int it wraps round by a multiple of four.
		turns(t, l, p+q, both)
		four := l
		for range 4 {
			four = all(chart.Turn(four, 1))
		}
		if !same(four, l) {
			t.Fatalf("%s, not %s", flat(four), flat(l))
		}
		x := s.someTree()
		draws(t, x, p+q, all(chart.Turn(all(chart.Draw(x, p)), q)))
	}
}

// 'What follows': flipped twice a drawing is as it was; flipped and twisted by a + b i it is as twisted by a - b i and flipped.
func TestFlips(t *testing.T) {
	s := source(6)
	all := must(t)
	count := 0
	for range 3000 {
		l := s.someDrawing()
		flips(t, all(chart.Flip(l)), l)
		a, b := s.someFactor(), s.someFactor()
		out := all(chart.Twist(l, a, -b))
		if modelMay(out) {
			count += len(l)
			flips(t, out, all(chart.Twist(all(chart.Flip(l)), a, b)))
		}
	}
	if count < 5000 {
		t.Error("too few:", count)
	}
}

// 'What follows': the weight of a twisted drawing is the twisted weight.
func TestTwistedWeight(t *testing.T) {
	s := source(7)
	all := must(t)
	count := 0
	for range 2000 {
		l := s.someDrawing()
		for i := range l {
			if s.below(40) > 0 {
				// So near that the twisted weight is that of a drawing that may be.
				l[i].X, l[i].Y = l[i].X%(1<<20), l[i].Y%(1<<20)
			}
		}
		a, b := s.someFactor(), s.someFactor()
		x, y, e := chart.Weight(l)
		out := all(chart.Twist(l, a, b))
		weight := []chart.Spot{{X: x, Y: y}}
		if e != api.OK || !modelMay(out) || !modelMay(weight) {
			continue
		}
		count += len(l)
		twisted := all(chart.Twist(weight, a, b))
		weighs(t, out, twisted[0].X, twisted[0].Y)
	}
	if count < 5000 {
		t.Error("too few:", count)
	}
}

// 'What follows', of spots and of turns by multiplication: a quarter is the product with i.
func TestQuarterIsProduct(t *testing.T) {
	s := source(8)
	all := must(t)
	for range 1000 {
		l := s.someDrawing()
		for q, by := range [][2]int{{1, 0}, {0, 1}, {-1, 0}, {0, -1}} {
			turns(t, l, q, all(chart.Twist(l, by[0], by[1])))
		}
	}
}
