package edit_test

import (
	"slices"
	"strings"
	"testing"

	"halyard/api"
	"halyard/edit"
)

// R1, R2, R6: every call ends and none panics, at all arguments, and answers as the model does.
func TestEveryCallEnds(t *testing.T) {
	s := source(10)
	errors := map[api.Errno]int{}
	s.anything(t, 400, func(p *session, x api.Step) {
		_, a := p.asModel(x)
		errors[a.Code]++
	})
	if errors[api.OK] < 100 || errors[api.ErrArg] < 1000 {
		t.Error("too few of a kind:", errors)
	}
	if got, a := edit.Do(api.State{}, nil, api.Step{}, api.Limits{}); a != (api.Answer{Code: api.ErrArg}) || !same(got, api.State{}) {
		t.Errorf("nothing at all: %+v, %s", a, flat(got))
	}
}

// R1: great things are told soon enough, and handed back as they were.
func TestGreatThings(t *testing.T) {
	const great = 1 << 17
	p := standing(t)
	long := strings.Repeat("a", 1<<24)
	for what, change := range map[string]func(s *api.State){
		"many wants":       func(s *api.State) { s.Manifest.Deps = slices.Repeat(s.Manifest.Deps, great) },
		"a great range":    func(s *api.State) { s.Manifest.Deps[0].Range = slices.Repeat(s.Manifest.Deps[0].Range, great) },
		"a great name":     func(s *api.State) { s.Manifest.Deps[0].Name = long },
		"many nodes":       func(s *api.State) { s.Graph.Nodes = slices.Repeat(s.Graph.Nodes, great) },
		"many edges":       func(s *api.State) { s.Graph.Nodes[0].Edges = slices.Repeat(s.Graph.Nodes[0].Edges, great) },
		"many directories": func(s *api.State) { s.Tree.Dirs = slices.Repeat(s.Tree.Dirs, great) },
		"a great path":     func(s *api.State) { s.Tree.Dirs[1].Path = slices.Repeat([]string{"a"}, great) },
		"a great package":  func(s *api.State) { s.Tree.Dirs[1].Pack.Deps = slices.Repeat(s.Manifest.Deps, great) },
	} {
		given := copied(p.s)
		change(&given)
		if got, a := edit.Do(given, p.c, install(), p.l); a != (api.Answer{Code: api.ErrArg}) || !same(got, given) {
			t.Errorf("%s: %+v", what, a)
		}
	}
	p.refuses(add(long, "*", 0), api.ErrName)
	p.refuses(add("a", strings.Repeat("*||", 1<<22), 0), api.ErrRange)
	p.refuses(remove(long), api.ErrName)
	p.refuses(update(long), api.ErrName)
	p.refuses(override(long, long), api.ErrName)
	p.refuses(override("a", long), api.ErrRange)
}

// full is nearly as many packages as may be, of which trees have many directories: each of 15 names has 8 versions, which need one of the next name each, and like any of the one behind that.
func full() []string {
	var l []string
	for i, name := range names("f", 15) {
		for v := range 8 {
			text := name + " " + string(rune('1'+v)) + ".0.0"
			if i < 14 {
				text += "; needs " + names("f", 15)[i+1] + " " + string(rune('1'+(v*3+i)%8)) + ".0.0"
			}
			if i < 13 {
				text += "; likes " + names("f", 15)[i+2] + " *"
			}
			l = append(l, text)
		}
	}
	return l
}

// R1: a project that is great is edited soon enough.
func TestFull(t *testing.T) {
	p := begun(t, published(full()...)).within(widest)
	for i, name := range names("f", 8) {
		p.does(add(name, []string{"*", "3.0.0", "<=5.0.0"}[i%3], i%3))
	}
	p.doesAll(install(), dedupe(), update("f05"), override("f10", "<=4.0.0"), update(""), prune(), install())
	if len(p.s.Graph.Nodes) < 60 || len(p.s.Tree.Dirs) < 100 {
		t.Error("too few:", len(p.s.Graph.Nodes), len(p.s.Tree.Dirs))
	}
}

// R5: the same is answered again, whatever was asked in between, and however much spare room there is.
func TestSameAgain(t *testing.T) {
	s := source(11)
	s.mixed(t, 60, func(p *session, x api.Step) {
		next, a := edit.Do(p.s, p.c, x, p.l)
		edit.Do(next, p.c, s.someStep(), p.l)
		for _, given := range []api.State{p.s, copied(p.s), roomy(p.s)} {
			if again, b := edit.Do(given, p.c, x, p.l); b != a || !same(again, next) {
				t.Fatalf("%s of %s: %+v, %s, then %+v, %s", told(x), flat(p.s), a, flat(next), b, flat(again))
			}
		}
	})
}

// The limits, errors and steps of this layer.
func TestNumbers(t *testing.T) {
	if api.MaxDecisions != 4096 || api.MaxNodes != 128 || api.MaxDirs != 256 || api.MaxPath != 1024 || api.MaxList != 16 || api.MaxText != 4096 {
		t.Error("limits:", api.MaxDecisions, api.MaxNodes, api.MaxDirs, api.MaxPath, api.MaxList, api.MaxText)
	}
	if !slices.Equal([]api.Errno{api.OK, api.ErrArg, api.ErrRange, api.ErrName, api.ErrFull, api.ErrUnsat, api.ErrBudget, api.ErrTooMany, api.ErrTooLong, api.ErrTooDeep, api.ErrWant, api.ErrOp}, []api.Errno{0, 1, 21, 23, 26, 30, 31, 32, 40, 41, 50, 51}) {
		t.Error("errors")
	}
	if !slices.Equal(ops, []int{2, 3, 4, 5, 6, 7, 8}) {
		t.Error("steps:", ops)
	}
}
