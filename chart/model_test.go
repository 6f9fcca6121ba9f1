package chart_test

import (
	"fmt"
	"math/big"
	"regexp"
	"slices"
	"strings"

	"halyard/api"
	"halyard/chart"
)

// The model: drawings by the tests' own means, by integers, as near to the chapter's words as may be.

var nameForm = regexp.MustCompile(`\A[a-z][a-z0-9-]{0,15}\z`)

// paths is a tree's paths: each behind the one in whose modules it stands, by names.
func paths(x api.Tree) [][]string {
	var l [][]string
	for _, d := range x.Dirs {
		l = append(l, d.Path)
	}
	slices.SortFunc(l, slices.Compare[[]string])
	return l
}

// inside is the paths that stand in the modules of one.
func inside(all [][]string, path []string) [][]string {
	var l [][]string
	for _, p := range all {
		if len(p) == len(path)+1 && slices.Equal(p[:len(path)], path) {
			l = append(l, p)
		}
	}
	return l
}

// rows is the rows of a directory.
func rows(all [][]string, path []string) int {
	n := 0
	for _, p := range inside(all, path) {
		n += rows(all, p)
	}
	return max(n, 1)
}

// row is the Y of a directory, before it is turned.
func row(all [][]string, path []string) int {
	if len(path) == 0 {
		return 0
	}
	above, name := path[:len(path)-1], path[len(path)-1]
	n := row(all, above)
	for _, p := range inside(all, above) {
		if p[len(above)] < name {
			n += rows(all, p)
		}
	}
	return n
}

// modelDraw is the drawing of a tree that may be.
func modelDraw(x api.Tree, quarters int) []chart.Spot {
	var l []chart.Spot
	all := paths(x)
	for _, p := range all {
		l = append(l, chart.Spot{Path: p, X: len(p), Y: row(all, p)})
	}
	return modelTurn(l, quarters)
}

// modelMay tells whether a drawing may be.
func modelMay(l []chart.Spot) bool {
	for _, s := range l {
		for _, n := range []int{s.X, s.Y} {
			if n > 1099511627776 || n < -1099511627776 {
				return false
			}
		}
	}
	return len(l) <= 257
}

// modelTwist is each point multiplied, which comes to less than an int has.
func modelTwist(l []chart.Spot, a, b int) []chart.Spot {
	l = slices.Clone(l)
	for i, s := range l {
		l[i].X, l[i].Y = s.X*a-s.Y*b, s.X*b+s.Y*a
	}
	return l
}

// modelTurn is each point turned quarter by quarter, at most three times.
func modelTurn(l []chart.Spot, quarters int) []chart.Spot {
	l = slices.Clone(l)
	for range new(big.Int).Mod(big.NewInt(int64(quarters)), big.NewInt(4)).Int64() {
		for i, s := range l {
			l[i].X, l[i].Y = -s.Y, s.X
		}
	}
	return l
}

func modelFlip(l []chart.Spot) []chart.Spot {
	l = slices.Clone(l)
	for i := range l {
		l[i].Y = -l[i].Y
	}
	return l
}

// modelSums is the frame of a drawing, and the sums of its points.
func modelSums(l []chart.Spot) (chart.Frame, int, int) {
	var xs, ys []int
	x, y := 0, 0
	for _, s := range l {
		xs, ys = append(xs, s.X), append(ys, s.Y)
		x, y = x+s.X, y+s.Y
	}
	if len(l) == 0 {
		return chart.Frame{}, 0, 0
	}
	return chart.Frame{Left: slices.Min(xs), Low: slices.Min(ys), Right: slices.Max(xs), High: slices.Max(ys)}, x, y
}

// modelText is a drawing's text; false, if it has none.
func modelText(l []chart.Spot) (string, bool) {
	text := ""
	for _, s := range l {
		path := "/"
		for i, n := range s.Path {
			if !nameForm.MatchString(n) {
				return "", false
			}
			path += strings.Repeat("/", min(i, 1)) + "modules/" + n
		}
		text += fmt.Sprintf("%d %d %s\n", s.X, s.Y, path)
	}
	return text, modelMay(l)
}
