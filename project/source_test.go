package project_test

import (
	"math"
	"slices"
	"strings"
	"testing"

	"halyard/api"
	"halyard/catalog"
	"halyard/image"
)

// source is numbers that look like chance, and are the same each time.
type source uint64

func (s *source) below(n int) int {
	*s = *s*6364136223846793005 + 1442695040888963407
	return int(uint64(*s) >> 33 % uint64(n))
}

// pick is one of a list.
func pick[T any](s *source, l ...T) T { return l[s.below(len(l))] }

// few is names that are near to one another; the first of them need none beside them.
var few = []string{"a", "a-", "a-b", "b", "modules", "aa", "c", "journal", "package"}

// someText is the text of a range that most versions are in.
func (s *source) someText() string {
	return pick(s, "*", "*", "<=2.0.0", ">=2.0.0", "1.0.0 || 3.0.0", "^1.0.0", "2.0.0", "^3.0.0")
}

// somePack is a package as publish takes it: one of the last four names may need any of the first three beside it; the others need and like each other.
func (s *source) somePack(name, v string) string {
	var needs, beside, likes []string
	guest := slices.Index(few, name) >= 5
	for i, n := range few {
		switch {
		case guest && i < 3 && s.below(3) == 0:
			beside = append(beside, "beside "+n+" *")
		case guest || n == name:
		case s.below(4) == 0:
			needs = append(needs, "needs "+n+" "+s.someText())
		case s.below(9) == 0:
			likes = append(likes, "likes "+n+" "+s.someText())
		}
	}
	text := name + " " + v
	// Names must rise in each list; a blank is less than all bytes of names, so their lines rise as they do.
	for _, l := range [][]string{needs, beside, likes} {
		slices.Sort(l)
		for _, line := range l {
			text += "; " + line
		}
	}
	return text
}

// somePacks is packages of all names, in three versions each, in any order.
func (s *source) somePacks() []string {
	var l []string
	for _, name := range few {
		for _, v := range []string{"1.0.0", "2.0.0", "3.0.0"} {
			l = slices.Insert(l, s.below(len(l)+1), s.somePack(name, v))
		}
	}
	return l
}

// someStep is a step, most of the time one that can be done.
func (s *source) someStep() api.Step {
	ops := []int{api.StepAdd, api.StepAdd, api.StepAdd, api.StepInstall, api.StepRemove, api.StepUpdate, api.StepDedupe, api.StepPrune, api.StepOverride}
	x := api.Step{Op: pick(s, ops...), Name: pick(s, few...), Range: s.someText(), Kind: s.below(3)}
	switch s.below(25) {
	case 0:
		x.Kind = pick(s, -1, 3, math.MinInt, math.MaxInt)
	case 1:
		x.Range = pick(s, "x", "^", ">1.0.0 <1.0.1", "\xff", strings.Repeat("*||", 2000))
	case 2:
		x.Op = pick(s, 0, 1, 9, 10, 11, -1, math.MinInt, math.MaxInt)
	case 3:
		x.Name = pick(s, "A", "zz", "a/b", "\x00", strings.Repeat("a", 17))
	case 4, 5, 6:
		x.Range = ""
	case 7, 8:
		x.Name = ""
	}
	x.Pack, x.N = pick(s, "", "x", "package a 9.9.9\n"), s.below(5)
	return x
}

// someLimits is limits, most of the time wide ones.
func (s *source) someLimits() api.Limits {
	l := greatest
	l.Decisions = 300
	switch s.below(9) {
	case 0:
		l.Decisions = 1 + s.below(12)
	case 1:
		l.Nodes = 1 + s.below(9)
	case 2:
		l.Dirs = 1 + s.below(9)
	case 3:
		l.Path = 9 + s.below(30)
	}
	return l
}

// walks goes through projects, each from the empty one on by some steps, while packages come out; visit is told each step, and asks it or not.
func (s *source) walks(t *testing.T, count int, visit func(p *session, x api.Step)) {
	t.Helper()
	for range count {
		p := within(t, image.Empty(), catalog.New(), s.someLimits())
		waiting := s.somePacks()
		for range 14 {
			out := s.below(len(waiting) + 1)
			publish(p.c, waiting[:out]...)
			waiting = waiting[out:]
			visit(p, s.someStep())
		}
	}
}
