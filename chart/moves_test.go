package chart_test

import (
	"fmt"
	"math"
	"testing"

	"halyard/api"
	"halyard/chart"
)

const far = 1 << 40

// P23.2: Twist, with each of its four products and signs.
func TestTwist(t *testing.T) {
	l := []chart.Spot{spot("b", 3, 5), spot("", -2, 7), spot("a b c", 0, -4), spot("b", 3, 5)}
	for _, x := range []struct {
		a, b int
		want string
	}{
		{1, 0, "b 3 5; root -2 7; a b c 0 -4; b 3 5"},
		{0, 0, "b 0 0; root 0 0; a b c 0 0; b 0 0"},
		{-1, 0, "b -3 -5; root 2 -7; a b c 0 4; b -3 -5"},
		{0, 1, "b -5 3; root -7 -2; a b c 4 0; b -5 3"},
		{0, -1, "b 5 -3; root 7 2; a b c -4 0; b 5 -3"},
		{2, 0, "b 6 10; root -4 14; a b c 0 -8; b 6 10"},
		{10, 100, "b -470 350; root -720 -130; a b c 400 -40; b -470 350"},
		{-10, 100, "b -530 250; root -680 -270; a b c 400 40; b -530 250"},
	} {
		got, e := chart.Twist(l, x.a, x.b)
		if e != api.OK || told(got) != x.want {
			t.Errorf("Twist by %d, %d: %s, error %d, not %s", x.a, x.b, told(got), e, x.want)
		}
	}
	twists(t, nil, 7, 7, nil)
	twists(t, []chart.Spot{}, 1024, -1024, nil)
}

// P23.2: a and b are -1024 to 1024, each.
func TestTwistFactors(t *testing.T) {
	drawings := [][]chart.Spot{nil, at(0, 0), at(2, 1), drawn(t, chapter(), 0), many(257)}
	may := []int{-1024, -1023, -1, 0, 1, 1023, 1024}
	for _, l := range drawings {
		for _, a := range may {
			for _, b := range may {
				twists(t, l, a, b, modelTwist(l, a, b))
			}
			for _, b := range []int{-1025, 1025, -1 << 40, 1 << 40, math.MinInt32, math.MaxInt32, math.MinInt, math.MaxInt, 1 << 32, -1 << 32} {
				got, e := chart.Twist(l, a, b)
				refused(t, fmt.Sprintf("Twist by %d, %d", a, b), got, e, api.ErrArg)
				got, e = chart.Twist(l, b, a)
				refused(t, fmt.Sprintf("Twist by %d, %d", b, a), got, e, api.ErrArg)
				got, e = chart.Twist(l, b, b)
				refused(t, fmt.Sprintf("Twist by %d, %d", b, b), got, e, api.ErrArg)
			}
		}
	}
}

// P23.2: points whose products are great are right to the last digit: the greatest coordinates, and those next to them, with the greatest factors.
func TestTwistFar(t *testing.T) {
	twists(t, at(far, far), 1024, 1024, at(0, 1<<51))
	twists(t, at(far, -far), 1024, 1024, at(1<<51, 0))
	twists(t, at(-far, -far), 1024, 1024, at(0, -1<<51))
	twists(t, at(far, far), -1024, 1024, at(-1<<51, 0))
	twists(t, at(far-1, far), 1024, 1023, at(1<<40-1024, 1<<50+1<<40*1023-1023))
	parts := []int{far, far - 1, far - 2, -far, 1 - far, far/3*2 + 1, -far / 7, 1, 0, -1, 1<<39 + 1, 123456789123}
	for _, x := range parts {
		for _, y := range parts {
			for _, a := range []int{1024, -1024, 1023, -1023, 1, 7, 0} {
				for _, b := range []int{1024, -1024, 1023, -1023, 1, 7, 0} {
					twists(t, at(x, y), a, b, at(x*a-y*b, x*b+y*a))
				}
			}
			for q := range 4 {
				turns(t, at(x, y), q, modelTurn(at(x, y), q))
			}
			flips(t, at(x, y), at(x, -y))
			weighs(t, at(x, y), x, y)
		}
	}
}

// P23.2: Turn by any number of quarters.
func TestTurn(t *testing.T) {
	l := []chart.Spot{spot("", 0, 0), spot("a", 1, 0), spot("b a", 3, -5), spot("a", -7, -2), spot("c", far, far-1)}
	for q, want := range []string{
		"root 0 0; a 1 0; b a 3 -5; a -7 -2; c 1099511627776 1099511627775",
		"root 0 0; a 0 1; b a 5 3; a 2 -7; c -1099511627775 1099511627776",
		"root 0 0; a -1 0; b a -3 5; a 7 2; c -1099511627776 -1099511627775",
		"root 0 0; a 0 -1; b a -5 -3; a -2 7; c 1099511627775 -1099511627776",
	} {
		for _, n := range []int{q, q + 4, q - 4, q - 8, q + 1<<40, q - 1<<62, math.MinInt + q, math.MaxInt - 3 + q} {
			got, e := chart.Turn(l, n)
			if e != api.OK || told(got) != want {
				t.Errorf("Turn by %d: %s, error %d, not %s", n, told(got), e, want)
			}
		}
	}
	for _, q := range quarters() {
		turns(t, l, q, modelTurn(l, q))
		turns(t, nil, q, nil)
		turns(t, []chart.Spot{}, q, nil)
	}
}

// P23.2: Flip.
func TestFlip(t *testing.T) {
	flips(t, []chart.Spot{spot("b", 3, 5), spot("", -2, -7), spot("a b", 0, 0), spot("b", far, -far), spot("b", -far, far)},
		[]chart.Spot{spot("b", 3, -5), spot("", -2, 7), spot("a b", 0, 0), spot("b", far, far), spot("b", -far, -far)})
	flips(t, nil, nil)
	flips(t, []chart.Spot{}, nil)
}

// P23.2, P23.3, P23.4: drawings that may be have at most 257 spots.
func TestManySpots(t *testing.T) {
	for _, count := range []int{0, 1, 2, 256, 257} {
		takenByAll(t, fmt.Sprint(count, " spots"), many(count))
		takenByAll(t, fmt.Sprint(count, " spots at 0"), make([]chart.Spot, count))
	}
	for _, count := range []int{258, 259, 512, 1 << 20} {
		takenByNone(t, fmt.Sprint(count, " spots"), make([]chart.Spot, count))
	}
	takenByNone(t, "258 spots", many(258))
	takenByNone(t, "258 spots, the last of which is far", append(many(257), spot("a", far+1, 0)))
}

// P23.2, P23.3, P23.4: X and Y are -2^40 to 2^40 each, at each spot.
func TestFarSpots(t *testing.T) {
	for _, n := range []int{far, -far, far - 1, 1 - far} {
		takenByAll(t, fmt.Sprint("X ", n), at(n, 0))
		takenByAll(t, fmt.Sprint("Y ", n), at(0, n))
		for m := range 4 {
			takenByAll(t, fmt.Sprint("one of four ", n), spoilt(many(4), m, n, -n))
		}
	}
	for _, n := range []int{far + 1, -far - 1, far + 2, 1 << 41, 1 << 53, 1<<53 + 1, 1 << 62, math.MaxInt, math.MinInt, math.MinInt + 1, math.MinInt + far, math.MaxInt - far, -1 << 53} {
		takenByNone(t, fmt.Sprint("X ", n), at(n, 0))
		takenByNone(t, fmt.Sprint("Y ", n), at(0, n))
		takenByNone(t, fmt.Sprint("both ", n), at(n, n))
		for m := range 4 {
			takenByNone(t, fmt.Sprint("one of four ", n), spoilt(many(4), m, n, 0))
			takenByNone(t, fmt.Sprint("one of four ", n), spoilt(many(4), m, 0, n))
		}
		takenByNone(t, fmt.Sprint("the last of 257 ", n), spoilt(many(257), 256, n, 0))
	}
}

// spoilt is a drawing with one spot at another point.
func spoilt(l []chart.Spot, i, x, y int) []chart.Spot {
	l[i].X, l[i].Y = x, y
	return l
}

// P23.2: what comes out of Twist may be further than a drawing's spots: it is told, but not taken again.
func TestTwistOut(t *testing.T) {
	for _, x := range []struct{ x, y, a, b int }{{far, 0, 2, 0}, {far, 0, 0, -2}, {far, far, 1, 1}, {far/2 + 1, 0, 2, 0}, {-far, -far, 1024, -1024}} {
		l, e := chart.Twist(append(many(3), at(x.x, x.y)...), x.a, x.b)
		if e != api.OK || modelMay(l) {
			t.Fatalf("%s, error %d", flat(l), e)
		}
		takenByNone(t, "what came out of Twist", l)
	}
	l, e := chart.Twist(at(far/2, 0), 2, 0)
	if e != api.OK {
		t.Fatal(e)
	}
	takenByAll(t, "what came out of Twist", l)
}

// P23.2, P23.3: Paths are not looked at, but by Text.
func TestPathsNotLookedAt(t *testing.T) {
	l := many(3)
	for _, path := range [][]string{nil, {}, {""}, {"A", "b"}, {"a b", "\n", "\xff"}, noNames(), make([]string, 1<<16)} {
		l[1].Path = path
		twists(t, l, 3, -4, modelTwist(l, 3, -4))
		turns(t, l, 5, modelTurn(l, 5))
		flips(t, l, modelFlip(l))
		boxes(t, l, chart.Frame{Low: 1, Right: 2, High: 7})
		weighs(t, l, 3, 12)
	}
}

// P23.2: drawings by chance are moved as the model moves them.
func TestMovesAsModel(t *testing.T) {
	s := source(2)
	for range 3000 {
		l := s.someDrawing()
		a, b, q := s.someFactor(), s.someFactor(), s.someQuarters()
		twists(t, l, a, b, modelTwist(l, a, b))
		turns(t, l, q, modelTurn(l, q))
		flips(t, l, modelFlip(l))
	}
}
