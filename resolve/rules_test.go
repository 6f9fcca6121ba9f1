package resolve_test

import (
	"fmt"
	"slices"
	"strings"
	"testing"
	"unsafe"

	"halyard/api"
	"halyard/manifest"
	"halyard/span"
)

// anyDeps is Deps of which few may be.
func (s *source) anyDeps() []api.Dep {
	var l []api.Dep
	for range s.below(3) {
		d := deps(s.pick(few...) + " " + s.someRange())[0]
		switch s.below(12) {
		case 0:
			d.Name = s.pick(noNames()...)
		case 1:
			d.Range = nil
		case 2:
			d.Range = []api.Span{{Lo: noVersions()[s.below(16)], Hi: version(1, 0, 0)}}
		}
		l = append(l, d)
	}
	return l
}

// R1, R2: every call ends and none panics, at all arguments; beside an error all else is zero.
func TestEveryCallEnds(t *testing.T) {
	s := source(10)
	met := map[api.Errno]int{}
	limits := []int{-1, 0, 1, 2, 3, 10, 127, 128, 129, 4095, 4096, 4097, 1 << 40, -1 << 63}
	for range 3000 {
		x := s.someTask()
		x.m = api.Manifest{Deps: s.anyDeps(), Dev: s.anyDeps(), Optional: s.anyDeps(), Overrides: s.anyDeps()}
		x.l = api.Limits{Decisions: limits[s.below(len(limits))], Nodes: limits[s.below(len(limits))], Dirs: limits[s.below(len(limits))], Path: limits[s.below(len(limits))]}
		for range s.below(5) {
			x.pins = append(x.pins, api.Pin{Name: s.pick(append(noNames(), few...)...), Version: append(noVersions(), s.someVersion())[s.below(17)]})
		}
		may := manifest.May(x.m) && x.l.Decisions >= 1 && x.l.Decisions <= 4096 && x.l.Nodes >= 1 && x.l.Nodes <= 128
		if may {
			met[x.asModel(t, "any arguments")]++
		} else {
			x.isRefused(t, "arguments that may not be")
			met[api.ErrArg]++
		}
	}
	for _, e := range []api.Errno{api.OK, api.ErrArg, api.ErrUnsat, api.ErrBudget, api.ErrTooMany} {
		if met[e] < 5 {
			t.Errorf("%d searches came to the error %d", met[e], e)
		}
	}
	task{}.isRefused(t, "nothing")
}

// Great things that may not be are refused as soon as small ones, and great lists of pins are gone through once.
func TestGreatThings(t *testing.T) {
	const many = 1 << 20
	x := chapter("needs a")
	x.m.Deps = slices.Repeat(x.m.Deps, many)
	x.isRefused(t, "a great manifest")
	x.m = api.Manifest{Overrides: []api.Dep{{Name: strings.Repeat("a", 1<<24), Range: span.All()}}}
	x.isRefused(t, "a great name")
	// As many decisions as may be, none of which will do, with many pins, of packages that are there and others.
	var all []string
	for i := range 64 {
		all = append(all, fmt.Sprintf("a %d.0.0", i))
	}
	for i := range 63 {
		all = append(all, fmt.Sprintf("b %d.0.0; beside z", i))
	}
	x = of("needs a, b", all...).within(4096, 128)
	for i := range many {
		x.pins = append(x.pins, api.Pin{Name: []string{"a", "b", "c"}[i%3], Version: version(i%100, i%2, 0)})
	}
	if g, n, e := x.run(); e != api.ErrUnsat || n != 0 || g.Nodes != nil {
		t.Errorf("a search with many pins: %s, %d, error %d", flat(g), n, e)
	}
}

// full is a task whose graph is as great as may be: a ring of packages beside one another, of which each has all in its context, and a ring of others, each of which needs the next one and the whole first ring.
func full() (task, []string) {
	const ringed, chained = 30, 97
	var context, led, needs, likes []string
	for i := range ringed {
		context = append(context, fmt.Sprintf("m%02d 1.0.0", i))
		led = append(led, fmt.Sprintf("m%02d %d", i, i+1))
		if i < 15 {
			needs = append(needs, fmt.Sprintf("m%02d", i))
		} else {
			likes = append(likes, fmt.Sprintf("m%02d", i))
		}
	}
	ring := strings.Join(led, ", ")
	nodes := []string{"root: " + ring + fmt.Sprintf(", n00 %d", ringed+1)}
	var all []string
	for i := range ringed {
		all = append(all, fmt.Sprintf("m%02d 1.0.0; beside m%02d", i, (i+1)%ringed))
		nodes = append(nodes, context[i]+" with "+strings.Join(context, ", ")+": "+ring)
	}
	wanted := "needs " + strings.Join(needs, ", ") + ", n%02d; likes " + strings.Join(likes, ", ")
	for i := range chained {
		// The last one needs the first one.
		next := (i + 1) % chained
		all = append(all, fmt.Sprintf("n%02d 1.0.0; "+wanted, i, next))
		nodes = append(nodes, fmt.Sprintf("n%02d 1.0.0: %s, n%02d %d", i, ring, next, next+ringed+1))
	}
	return of(fmt.Sprintf(wanted, 0), all...), nodes
}

// R1: a graph of MaxNodes nodes with far more edges, each to a great context, is found soon enough.
func TestFull(t *testing.T) {
	x, want := full()
	const decisions = 98 * 31
	g, n, e := x.within(decisions, api.MaxNodes).run()
	if e != api.OK || n != decisions || flat(g) != flat(drawn(want...)) {
		t.Errorf("a full graph: %s, %d, error %d", short(flat(g)), n, e)
	}
	x.within(decisions, api.MaxNodes).isSound(t, "a full graph", g)
	if _, _, e := x.within(decisions-1, api.MaxNodes).run(); e != api.ErrBudget {
		t.Errorf("a full graph with a decision less: error %d", e)
	}
	if _, _, e := x.within(decisions, api.MaxNodes-1).run(); e != api.ErrTooMany {
		t.Errorf("a full graph with a node less: error %d", e)
	}
}

// R1: a search that binds many nodes in great contexts again and again ends soon enough.
func TestBoundAgain(t *testing.T) {
	var all, needs, dev []string
	for i := range 30 {
		var beside []string
		for k := range 16 {
			beside = append(beside, fmt.Sprintf("m%02d", (i+k+1)%30))
		}
		slices.Sort(beside)
		all = append(all, fmt.Sprintf("m%02d 1.0.0; beside %s", i, strings.Join(beside, ", ")))
		if i < 16 {
			needs = append(needs, fmt.Sprintf("m%02d", i))
		} else {
			dev = append(dev, fmt.Sprintf("m%02d", i))
		}
	}
	for i := range 20 {
		all = append(all, fmt.Sprintf("x %d.0.0; needs z", i), fmt.Sprintf("y %d.0.0", i))
	}
	x := of("needs "+strings.Join(needs, ", ")+"; dev "+strings.Join(dev, ", ")+", x, y", all...)
	const decisions = 30 + 20 + 20*20
	if g, n, e := x.within(decisions, 33).run(); e != api.ErrUnsat || n != 0 || g.Nodes != nil {
		t.Errorf("a search that binds again and again: %s, %d, error %d", short(flat(g)), n, e)
	}
	if _, _, e := x.within(decisions-1, 33).run(); e != api.ErrBudget {
		t.Errorf("a search that binds again and again, with a decision less: error %d", e)
	}
}

// inRoom is a list with marks in its spare room.
func inRoom[T any](l []T, mark T) []T { return slices.Concat(l, []T{mark, mark, mark})[:len(l)] }

// roomyDeps is Deps with marks in their spare room, at both depths.
func roomyDeps(l []api.Dep) []api.Dep {
	room := inRoom(l, api.Dep{Name: "mark"})
	for i, d := range room {
		room[i].Range = inRoom(d.Range, api.Span{Lo: version(-7, 0, 0)})
	}
	return room
}

// wholeDeps is Deps and their spare room, at both depths, as a text.
func wholeDeps(l []api.Dep) string {
	s := ""
	for _, d := range l[:cap(l)] {
		s += fmt.Sprint(d.Name, d.Range[:cap(d.Range)])
	}
	return s
}

func projectLists(m *api.Manifest) []*[]api.Dep {
	return []*[]api.Dep{&m.Deps, &m.Dev, &m.Optional, &m.Overrides}
}

// roomy is a task with marks in the spare room of all its lists.
func roomy(x task) task {
	for _, l := range projectLists(&x.m) {
		*l = roomyDeps(*l)
	}
	x.pins = inRoom(x.pins, pin("a 1.0.0"))
	return x
}

// whole is all that a task hands in, with its spare room, as a text.
func whole(x task) string {
	text := fmt.Sprint(x.c.All(), x.pins[:cap(x.pins)], x.dev, x.l)
	for _, l := range projectLists(&x.m) {
		text += wholeDeps(*l)
	}
	return text
}

// spoil writes over all of a graph, its spare room too, at every depth.
func spoil(g api.Graph) {
	nodes := g.Nodes[:cap(g.Nodes)]
	for i, n := range nodes {
		spoilList(n.Context, api.Pin{Name: "spoilt", Version: version(-1, -1, -1)})
		spoilList(n.Edges, api.Edge{Label: "spoilt", To: -99})
		nodes[i] = api.Node{Name: "spoilt"}
	}
}

func spoilList[T any](l []T, mark T) {
	l = l[:cap(l)]
	for i := range l {
		l[i] = mark
	}
}

// R4: what is handed in stays as it is, its spare room too, whoever writes into what was told; and the spare room is not looked at.
func TestHandedInStays(t *testing.T) {
	s := source(11)
	for range 300 {
		x := s.someTask()
		before, n, e := x.run()
		given := roomy(x)
		want := whole(given)
		g, n2, e2 := given.run()
		if flat(g) != flat(before) || n2 != n || e2 != e {
			t.Fatalf("Run of lists with spare room: %s, %d, error %d, not %s, %d, error %d", flat(g), n2, e2, flat(before), n, e)
		}
		spoil(g)
		if got := whole(given); got != want {
			t.Fatalf("what was handed in is changed: %s, not %s", got, want)
		}
	}
}

// R4: what is answered is new memory: whoever writes into it changes nothing of what is told later, or was told before, and it stays when what was handed in is changed.
func TestAnswersAreNew(t *testing.T) {
	s := source(12)
	for range 300 {
		x := roomy(s.someTask())
		g, _, e := x.run()
		want := flat(g)
		other, _, _ := x.run()
		spoil(other)
		again, _, _ := x.run()
		if flat(g) != want || flat(again) != want {
			t.Fatalf("what was told is changed: %s; %s, not %s", flat(g), flat(again), want)
		}
		for _, l := range projectLists(&x.m) {
			for _, d := range *l {
				spoilList(d.Range, api.Span{})
			}
			spoilList(*l, api.Dep{Name: "spoilt"})
		}
		spoilList(x.pins, pin("spoilt 1.0.0"))
		if e == api.OK && flat(g) != want {
			t.Fatalf("what was told is changed by what was handed in: %s, not %s", flat(g), want)
		}
	}
}

// R4: no two lists of one answer share memory, their spare room neither.
func TestListsShareNothing(t *testing.T) {
	s := source(13)
	lists := 0
	for range 300 {
		g, _, _ := s.someTask().run()
		for i := range g.Nodes {
			want := flat(g)
			kept := slices.Clone(g.Nodes[i].Context)
			spoilList(g.Nodes[i].Context, pin("spoilt 1.0.0"))
			g.Nodes[i].Context = kept
			edges := slices.Clone(g.Nodes[i].Edges)
			spoilList(g.Nodes[i].Edges, api.Edge{Label: "spoilt", To: -99})
			g.Nodes[i].Edges = edges
			if flat(g) != want {
				t.Fatalf("what is written into lists of node %d is seen elsewhere: %s, not %s", i, flat(g), want)
			}
			lists += len(kept)
		}
	}
	if lists < 300 {
		t.Errorf("%d pins looked at", lists)
	}
}

// R4: no name that is told stands in the memory of what was handed in, or of another answer.
func TestTextsAreNew(t *testing.T) {
	x := of("needs a, b; likes d; pins d", "a 1.0.0; needs c", "b 1.0.0; beside a", "c 1.0.0; beside c", "c 2.0.0; needs x", "d 1.0.0; beside a, b").liking("a 1.0.0, c 1.0.0")
	times := map[*byte]int{}
	count := func(name string) {
		if name != "" {
			times[unsafe.StringData(name)]++
		}
	}
	for _, l := range projectLists(&x.m) {
		for _, d := range *l {
			count(d.Name)
		}
	}
	for _, p := range x.pins {
		count(p.Name)
	}
	for range 2 {
		g, _, e := x.run()
		if e != api.OK || len(g.Nodes) != 5 {
			t.Fatal(flat(g), e)
		}
		for _, n := range g.Nodes {
			count(n.Name)
			for _, p := range n.Context {
				count(p.Name)
			}
			for _, e := range n.Edges {
				count(e.Label)
			}
		}
	}
	for at, n := range times {
		if n > 1 {
			t.Errorf("a name stands where %d others do: %c", n-1, *at)
		}
	}
}

// R4: nil and empty lists are one.
func TestNilAndEmpty(t *testing.T) {
	for _, l := range [][]api.Dep{nil, {}, make([]api.Dep, 0, 5)} {
		for _, likes := range [][]api.Pin{nil, {}, make([]api.Pin, 0, 5)} {
			x := chapter("needs a")
			x.m.Dev, x.m.Optional, x.m.Overrides, x.pins = l, l, l, likes
			x.finds(t, "empty lists", 3, "root: a 1", "a 1.0.0: b 2", "b 1.1.0")
			x.m.Deps = l
			x.finds(t, "empty lists alone", 0, "root")
		}
	}
}

// R5: what is told is the same each time it is asked.
func TestSameAgain(t *testing.T) {
	s := source(14)
	for range 100 {
		x := s.someTask()
		g, n, e := x.run()
		for range 10 {
			if got, n2, e2 := roomy(x).run(); flat(got) != flat(g) || n2 != n || e2 != e {
				t.Fatalf("Run again of %v: %s, %d, error %d, not %s, %d, error %d", x, flat(got), n2, e2, flat(g), n, e)
			}
		}
	}
}

// R5: the catalog is only asked: what is put into it later counts then.
func TestCatalogIsAsked(t *testing.T) {
	x := of("needs a")
	x.fails(t, "a that is not there yet", api.ErrUnsat)
	for i, text := range []string{"a 1.0.0", "a 2.0.0; needs b", "b 1.0.0"} {
		if e := x.c.Put(packed(text)); e != api.OK {
			t.Fatal(e)
		}
		if i < 2 {
			x.finds(t, text, i+1, "root: a 1", "a 1.0.0")
		} else {
			x.finds(t, text, 2, "root: a 1", "a 2.0.0: b 2", "b 1.0.0")
		}
	}
}

// The limits and errors of this layer.
func TestLimits(t *testing.T) {
	if api.MaxNodes != 128 || api.MaxDecisions != 4096 || api.OK != 0 || api.ErrArg != 1 || api.ErrUnsat != 30 || api.ErrBudget != 31 || api.ErrTooMany != 32 || api.WantMust != 1 || api.WantMay != 2 {
		t.Error("limits:", api.MaxNodes, api.MaxDecisions, api.OK, api.ErrArg, api.ErrUnsat, api.ErrBudget, api.ErrTooMany, api.WantMust, api.WantMay)
	}
}
