package cli_test

import (
	"math"
	"slices"
	"strings"

	"halyard/api"
)

// source is numbers that look like chance, and are the same each time.
type source uint64

func (s *source) below(n int) int {
	*s = *s*6364136223846793005 + 1442695040888963407
	return int(uint64(*s) >> 33 % uint64(n))
}

// pick is one of a list.
func pick[T any](s *source, l ...T) T { return l[s.below(len(l))] }

// few is names that are near to one another; the last four may need any of the first three beside them.
var few = []string{"a", "a-", "a-b", "b", "modules", "aa", "c", "journal", "package"}

// someRange is the text of a range that most versions are in.
func (s *source) someRange() string {
	return pick(s, "*", "*", "<=2.0.0", ">=2.0.0", "1.0.0 || 3.0.0", "^1.0.0", "2.0.0", "^3.0.0")
}

// somePack is a package as publish takes it.
func (s *source) somePack(name, v string) string {
	lists := map[string][]string{}
	guest := slices.Index(few, name) >= 5
	for i, n := range few {
		switch {
		case guest && i < 3 && s.below(3) == 0:
			lists["beside"] = append(lists["beside"], "beside "+n+" *")
		case guest || n == name:
		case s.below(4) == 0:
			lists["needs"] = append(lists["needs"], "needs "+n+" "+s.someRange())
		case s.below(9) == 0:
			lists["likes"] = append(lists["likes"], "likes "+n+" "+s.someRange())
		}
	}
	l := []string{name + " " + v}
	// A blank is less than all bytes of names, so that the lines rise as the names do.
	for _, word := range []string{"needs", "beside", "likes"} {
		l = append(l, slices.Sorted(slices.Values(lists[word]))...)
	}
	return strings.Join(l, "; ")
}

// somePacks is packages of all names, in three versions each, in any order.
func (s *source) somePacks() []string {
	var l []string
	for _, name := range few {
		for _, v := range []string{"1.0.0", "2.0.0", "3.0.0"} {
			l = slices.Insert(l, s.below(len(l)+1), s.somePack(name, v))
		}
	}
	return l
}

// someCommand is a command, most of the time one that can be done.
func (s *source) someCommand() api.Step {
	ops := []int{api.StepAdd, api.StepAdd, api.StepAdd, api.StepInstall, api.StepRemove, api.StepUpdate, api.StepDedupe, api.StepPrune, api.StepOverride}
	x := api.Step{Op: pick(s, ops...), Name: pick(s, few...), Range: s.someRange(), Kind: s.below(3)}
	switch s.below(25) {
	case 0:
		x.Kind = pick(s, -1, 3, math.MinInt, math.MaxInt)
	case 1:
		x.Range = pick(s, "x", "^", ">1.0.0 <1.0.1", "\xff", strings.Repeat("*||", 2000))
	case 2:
		x.Name = pick(s, "A", "zz", "a/b", "\x00", strings.Repeat("a", 17))
	case 3, 4, 5:
		x.Range = ""
	case 6, 7:
		x.Name = ""
	}
	x.Pack, x.N = pick(s, "", "x", "package a 9.9.9\n"), s.below(9)-2
	return x
}

// someStep is a step of any kind, most of the time a command; without cuts there are none, nor openings.
func (s *source) someStep(cuts bool, packages []string) api.Step {
	switch k := s.below(20); {
	case k < 3:
		return publish(pick(s, packages...))
	case k == 3:
		return api.Step{Op: pick(s, noOps()...), Name: "a", Range: "*"}
	case k == 4:
		return text(pick(s, "x", "", "package A 1.0.0\n", "package a 1\n", "package a 1.0.0\nneeds b x\n", strings.Repeat("a", 5000)))
	case k < 8 && cuts:
		return cut(pick(s, 0, 1, 2, 3, 4, 5, 6, 8, 11, 15, 20, 30, -1, math.MinInt, math.MaxInt))
	case k < 11 && cuts:
		return open()
	}
	return s.someCommand()
}

// someLimits is limits, most of the time wide ones.
func (s *source) someLimits() api.Limits {
	l := greatest
	l.Decisions = 300
	switch s.below(9) {
	case 0:
		l.Decisions = 1 + s.below(12)
	case 1:
		l.Nodes = 1 + s.below(9)
	case 2:
		l.Dirs = 1 + s.below(9)
	case 3:
		l.Path = 9 + s.below(30)
	}
	return l
}
