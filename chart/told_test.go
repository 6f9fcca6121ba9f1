package chart_test

import (
	"fmt"
	"strings"
	"testing"

	"halyard/api"
	"halyard/chart"
)

// P23.3: Box: each side is of its own; of one spot, and of none.
func TestBox(t *testing.T) {
	boxes(t, nil, chart.Frame{})
	boxes(t, []chart.Spot{}, chart.Frame{})
	boxes(t, at(0, 0), chart.Frame{})
	boxes(t, at(3, -4), chart.Frame{Left: 3, Low: -4, Right: 3, High: -4})
	boxes(t, at(-far, far), chart.Frame{Left: -far, Low: far, Right: -far, High: far})
	boxes(t, []chart.Spot{spot("", 5, 6), spot("", 7, 8)}, chart.Frame{Left: 5, Low: 6, Right: 7, High: 8})
	boxes(t, []chart.Spot{spot("", -5, -6), spot("", -7, -8)}, chart.Frame{Left: -7, Low: -8, Right: -5, High: -6})
	boxes(t, []chart.Spot{spot("", 5, -6), spot("", 7, -8)}, chart.Frame{Left: 5, Low: -8, Right: 7, High: -6})
	four := []chart.Spot{spot("a", 2, 11), spot("b", 1, 12), spot("c", 3, 10), spot("d", 4, 13)}
	for i := range four {
		turned := append(append([]chart.Spot{}, four[i:]...), four[:i]...)
		boxes(t, turned, chart.Frame{Left: 1, Low: 10, Right: 4, High: 13})
	}
	boxes(t, []chart.Spot{spot("a", far, -far), spot("a", -far, far)}, chart.Frame{Left: -far, Low: -far, Right: far, High: far})
}

// P23.3: Weight: of none, of one, of spots at one point, of as many as may be as far as may be.
func TestWeight(t *testing.T) {
	weighs(t, nil, 0, 0)
	weighs(t, []chart.Spot{}, 0, 0)
	weighs(t, at(3, -4), 3, -4)
	weighs(t, []chart.Spot{spot("a", 3, -4), spot("a", 3, -4), spot("b", -1, 10)}, 5, 2)
	for _, corner := range [][2]int{{far, far}, {-far, -far}, {far, -far}, {far - 1, 1 - far}, {1 - far, far}} {
		var l []chart.Spot
		for range 257 {
			l = append(l, spot("a", corner[0], corner[1]))
		}
		weighs(t, l, 257*corner[0], 257*corner[1])
		l[7].X, l[8].Y = 1, -1
		weighs(t, l, 256*corner[0]+1, 256*corner[1]-1)
	}
}

// P23.4: Text: a line a spot, in the drawing's order.
func TestText(t *testing.T) {
	reads(t, nil, "")
	reads(t, []chart.Spot{}, "")
	reads(t, []chart.Spot{{}}, "0 0 /\n")
	reads(t, at(-3, 40), "-3 40 /modules/a/modules/b\n")
	reads(t, []chart.Spot{spot("b", far, -far), spot("", 10, -1), spot("b", far, -far), spot("a modules left-pad z9", 0, 100)},
		"1099511627776 -1099511627776 /modules/b\n10 -1 /\n1099511627776 -1099511627776 /modules/b\n0 100 /modules/a/modules/modules/modules/left-pad/modules/z9\n")
	reads(t, []chart.Spot{{Path: []string{"abcdefghijklmnop"}}}, "0 0 /modules/abcdefghijklmnop\n")
	x := drawn(t, chapter(), 0)
	reads(t, x, "0 0 /\n1 0 /modules/a\n2 0 /modules/a/modules/b\n2 1 /modules/a/modules/c\n1 2 /modules/d\n")
	reads(t, drawn(t, chapter(), 2), "0 0 /\n-1 0 /modules/a\n-2 0 /modules/a/modules/b\n-2 -1 /modules/a/modules/c\n-1 -2 /modules/d\n")
	reads(t, []chart.Spot{x[3], x[1], x[3]}, "2 1 /modules/a/modules/c\n1 0 /modules/a\n2 1 /modules/a/modules/c\n")
}

// P23.4: a nought that was turned, flipped or twisted is one without `-`.
func TestTextOfNought(t *testing.T) {
	for q := range 4 {
		reads(t, drawn(t, grown(), q), "0 0 /\n")
	}
	l, e := chart.Flip(at(0, 0))
	if e != api.OK {
		t.Fatal(e)
	}
	reads(t, l, "0 0 /modules/a/modules/b\n")
	for _, a := range []int{-1024, -1, 0, 1} {
		if l, e = chart.Twist(at(0, 0), a, -a); e != api.OK {
			t.Fatal(e)
		}
		reads(t, l, "0 0 /modules/a/modules/b\n")
	}
}

// P23.4: a Path is that of no directory, perhaps, but its names may be, each of them.
func TestTextOfNames(t *testing.T) {
	for _, bad := range noNames() {
		for count := 1; count < 4; count++ {
			for i := range count {
				path := names("a b c")[:count]
				path[i] = bad
				for among := range 3 {
					l := many(3)
					l[among].Path = path
					textless(t, l)
				}
			}
		}
	}
	for b := range 256 {
		for _, name := range []string{string([]byte{byte(b)}), "a" + string([]byte{byte(b)})} {
			l := []chart.Spot{{Path: []string{"x", name}, X: 1, Y: 2}}
			if want, ok := modelText(l); ok {
				reads(t, l, want)
			} else {
				textless(t, l)
			}
		}
	}
	for _, path := range [][]string{nil, {}, make([]string, 0, 4)} {
		reads(t, []chart.Spot{{Path: path, X: 1, Y: 2}}, "1 2 /\n")
	}
	// Names that may not be are refused also where the drawing may not be.
	textless(t, []chart.Spot{{Path: []string{"A"}, X: far + 1}})
	textless(t, append(many(257), chart.Spot{Path: []string{""}}))
}

// P23.4: paths may be of any length, also such as no directory has.
func TestTextOfLongPaths(t *testing.T) {
	for _, count := range []int{40, 103, 257, 1 << 16} {
		l := []chart.Spot{{Path: names(strings.Repeat("a ", count)), X: -1, Y: 1}}
		reads(t, l, "-1 1 "+strings.Repeat("/modules/a", count)+"\n")
		l[0].Path[count-1] = "A"
		textless(t, l)
	}
}

// P23.3, P23.4: drawings by chance are told as the model tells them.
func TestToldAsModel(t *testing.T) {
	s := source(3)
	count := map[bool]int{}
	for range 3000 {
		l := s.someDrawing()
		f, x, y := modelSums(l)
		boxes(t, l, f)
		weighs(t, l, x, y)
		if len(l) > 0 && s.below(3) == 0 {
			i := s.below(len(l))
			l[i].Path = append(l[i].Path, pick(&s, append(noNames(), few...)...))
		}
		want, ok := modelText(l)
		count[ok]++
		if ok {
			reads(t, l, want)
		} else {
			textless(t, l)
		}
	}
	if count[true] < 1000 || count[false] < 100 {
		t.Error(count)
	}
}

// P23.4: each line of a text stands for a spot: no two drawings of one count have one text.
func TestOneTextEach(t *testing.T) {
	met := map[string]string{}
	for _, x := range []int{0, 1, -1, 10, 11, -10} {
		for _, y := range []int{0, 1, -1, 10, 11, -10} {
			for _, path := range []string{"", "a", "a b", "b", "ab", "a-b", "modules"} {
				l := []chart.Spot{spot(path, x, y)}
				text, e := chart.Text(l)
				if e != api.OK || met[text] != "" {
					t.Error(flat(l), met[text], e)
				}
				met[text] = fmt.Sprint(flat(l))
			}
		}
	}
}
