package cli_test

import (
	"math"
	"strings"
	"testing"

	"halyard/api"
)

// used tells which fields of a step its Op uses; the first of each field's values is that of a step without it.
type used struct{ name, text, kind, pack, n bool }

// uses is which fields each Op uses.
func uses(op int) used {
	switch op {
	case api.StepPublish:
		return used{pack: true}
	case api.StepAdd:
		return used{name: true, text: true, kind: true}
	case api.StepRemove, api.StepUpdate:
		return used{name: true}
	case api.StepOverride:
		return used{name: true, text: true}
	case api.StepCut:
		return used{n: true}
	}
	return used{}
}

// filled is steps that differ from one in what it does not use alone.
func filled(x api.Step) []api.Step {
	u := uses(x.Op)
	texts := []string{"", "a", "b", "zz", "*", "1.0.0", "A", "x", "\x00\xff", "package z 1.0.0\n", "package a 1.0.0\n", strings.Repeat("a", 1<<13)}
	numbers := []int{0, 1, 2, 3, 4, -1, 10, 1 << 40, math.MinInt, math.MaxInt}
	var l []api.Step
	for i := range 12 {
		y := x
		if !u.name {
			y.Name = texts[i]
		}
		if !u.text {
			y.Range = texts[(i*5+1)%12]
		}
		if !u.pack {
			y.Pack = texts[(i*7+2)%12]
		}
		if !u.kind {
			y.Kind = numbers[i%10]
		}
		if !u.n {
			y.N = numbers[(i*3+1)%10]
		}
		l = append(l, y)
	}
	return l
}

// P22.2: what a step does not use is not looked at: with anything in it the answer is the same, and so is all that is told behind it, also behind a cut and an opening.
func TestUnused(t *testing.T) {
	count := 0
	for _, x := range append(some(), publish("z 1.0.0"), text("x"), publish("a 1.0.0"), cut(0), cut(3), cut(-1), open(), api.Step{Op: 0}, api.Step{Op: 11}) {
		for _, ahead := range [][]api.Step{nil, {cut(4)}, {cut(0)}} {
			p := built(t)
			for _, y := range ahead {
				p.asks(y)
			}
			want := p.clone().asks(x)
			for _, y := range filled(x) {
				q := p.clone()
				q.answers(y, want)
				q.does(open())
				q.asks(remove("a"))
				count++
			}
		}
	}
	if count < 800 {
		t.Error("too few:", count)
	}
}
