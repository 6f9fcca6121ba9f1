package chart_test

import (
	"fmt"
	"math"
	"reflect"
	"slices"
	"strings"
	"testing"
	"unsafe"

	"halyard/api"
	"halyard/chart"
	"halyard/tree"
)

// R1, R2: every call ends and none panics, at all arguments; beside an error all else is zero.
func TestEveryCallEnds(t *testing.T) {
	s := source(9)
	codes := map[api.Errno]int{}
	wild := func() int {
		return pick(&s, 0, 1, far, -far, far+1, -far-1, math.MinInt, math.MaxInt, 1<<53+1, s.somePart(), s.somePart())
	}
	for range 3000 {
		x, q := s.anyTree(), s.someQuarters()
		l, e := chart.Draw(x, q)
		codes[e]++
		if tree.Check(x) == api.OK {
			answers(t, "Draw", l, e, modelDraw(x, q))
		} else {
			refused(t, "Draw", l, e, api.ErrTree)
		}
		l = s.someDrawing()
		for range s.below(3) {
			l = append(l, chart.Spot{Path: []string{pick(&s, noNames()...)}, X: wild(), Y: wild()})
		}
		a, b := pick(&s, s.someFactor(), wild()), pick(&s, s.someFactor(), wild())
		out, e := chart.Twist(l, a, b)
		codes[e]++
		if modelMay(l) && max(a, -a, b, -b) <= 1024 && a != math.MinInt && b != math.MinInt {
			answers(t, "Twist", out, e, modelTwist(l, a, b))
		} else {
			refused(t, "Twist", out, e, api.ErrArg)
		}
		if text, ok := modelText(l); ok {
			reads(t, l, text)
		} else {
			textless(t, l)
		}
		if !modelMay(l) {
			takenByNone(t, "a drawing that may not be", l)
		}
	}
	if codes[api.OK] < 1000 || codes[api.ErrTree] < 500 || codes[api.ErrArg] < 500 {
		t.Error(codes)
	}
}

// R1: great things that may not be are refused soon enough.
func TestGreatThings(t *testing.T) {
	wide := wide(1 << 17)
	l, e := chart.Draw(wide, 1)
	refused(t, "a wide tree", l, e, api.ErrTree)
	l, e = chart.Draw(api.Tree{Dirs: []api.Dir{{}, dir(1, slices.Repeat([]string{"a"}, 1<<20)...)}}, 1)
	refused(t, "a deep tree", l, e, api.ErrTree)
	takenByNone(t, "many spots", make([]chart.Spot, 1<<22))
	textless(t, []chart.Spot{{Path: []string{strings.Repeat("a", 1<<24)}}})
	textless(t, []chart.Spot{{Path: make([]string, 1<<20)}})
	for range 100 {
		drawn(t, full(), 1)
	}
}

// lists goes through all lists of a value with their spare room, the outer ones first.
func lists(v reflect.Value, visit func(l reflect.Value)) {
	switch v.Kind() {
	case reflect.Struct:
		for i := range v.NumField() {
			lists(v.Field(i), visit)
		}
	case reflect.Slice:
		v = v.Slice(0, v.Cap())
		visit(v)
		for i := range v.Len() {
			lists(v.Index(i), visit)
		}
	}
}

// mark is a value that stands nowhere else.
func mark(t reflect.Type) reflect.Value {
	out := reflect.New(t).Elem()
	switch t.Kind() {
	case reflect.Struct:
		for i := range t.NumField() {
			out.Field(i).Set(mark(t.Field(i).Type))
		}
	case reflect.String:
		out.SetString("mark")
	case reflect.Int:
		out.SetInt(-777)
	}
	return out
}

// spoil writes over all lists of a value and their spare room, the inner ones first.
func spoil(x any) {
	var all []reflect.Value
	lists(reflect.ValueOf(x), func(l reflect.Value) { all = append(all, l) })
	for _, l := range slices.Backward(all) {
		for i := range l.Len() {
			l.Index(i).Set(mark(l.Type().Elem()))
		}
	}
}

// memory is where a list stands, with its spare room, or a text.
type memory struct{ from, to uintptr }

// memories is where the lists of values stand, with their spare room.
func memories(values ...any) []memory {
	var out []memory
	for _, x := range values {
		lists(reflect.ValueOf(x), func(l reflect.Value) {
			if n := uintptr(l.Len()) * l.Type().Elem().Size(); n > 0 {
				out = append(out, memory{l.Pointer(), l.Pointer() + n})
			}
		})
	}
	return out
}

// apart tells whether no two of these share memory.
func apart(l []memory) bool {
	slices.SortFunc(l, func(a, b memory) int { return int(int64(a.from) - int64(b.from)) })
	for i := range l {
		if i > 0 && l[i].from < l[i-1].to {
			return false
		}
	}
	return true
}

// whole is a value with the spare room of its lists, at every depth, as a text.
func whole(x any) string {
	var s strings.Builder
	fmt.Fprint(&s, x)
	lists(reflect.ValueOf(x), func(l reflect.Value) { fmt.Fprint(&s, l) })
	return s.String()
}

// inRoom is a list with marks in its spare room.
func inRoom[T any](l []T, mark T) []T { return slices.Concat(l, []T{mark, mark, mark})[:len(l)] }

// roomyTree is a tree with marks in the spare room of its lists.
func roomyTree(x api.Tree) api.Tree {
	room := api.Tree{Dirs: inRoom(x.Dirs, api.Dir{Node: 77})}
	for i := range room.Dirs {
		room.Dirs[i].Path = inRoom(room.Dirs[i].Path, "mark")
	}
	return room
}

// roomy is a drawing with marks in the spare room of its lists.
func roomy(l []chart.Spot) []chart.Spot {
	room := inRoom(l, chart.Spot{X: 77})
	for i := range room {
		room[i].Path = inRoom(room[i].Path, "mark")
	}
	return room
}

// all is what is told of a tree and of a drawing.
type all struct {
	Drawn, Twisted, Turned, Flipped []chart.Spot
	Rest                            string
}

// ask asks all that may be asked.
func ask(x api.Tree, l []chart.Spot) all {
	var out all
	out.Drawn, _ = chart.Draw(x, 5)
	out.Twisted, _ = chart.Twist(l, -3, 4)
	out.Turned, _ = chart.Turn(l, 0)
	out.Flipped, _ = chart.Flip(l)
	f, e := chart.Box(l)
	wx, wy, e2 := chart.Weight(l)
	text, e3 := chart.Text(l)
	out.Rest = fmt.Sprint(f, e, wx, wy, e2, text, e3)
	return out
}

// R4: what is handed in stays as it is, its spare room too, whoever writes into what was told; what is told shares no memory with it, nor any two lists of what is told, and stays as it is when others are written over.
func TestMemory(t *testing.T) {
	s := source(10)
	count := 0
	for range 600 {
		x, l := roomyTree(s.someTree()), roomy(s.someDrawing())
		wantTree, wantList := whole(x), whole(l)
		first, second := ask(x, l), ask(x, l)
		if whole(x) != wantTree || whole(l) != wantList {
			t.Fatal("what was handed in is changed")
		}
		where := memories(x, l, first, second)
		if !apart(where) {
			t.Fatalf("lists share memory: %s", flat(first.Drawn))
		}
		count += len(where)
		want := whole(second)
		spoil(first)
		if whole(x) != wantTree || whole(l) != wantList {
			t.Fatal("what was handed in is changed by who writes into what was told")
		}
		if whole(second) != want || whole(ask(x, l)) != want {
			t.Fatal("what is told is changed by who writes into what was told")
		}
		spoil(x)
		spoil(l)
		if whole(second) != want {
			t.Fatal("what was told is changed by who writes into what was handed in")
		}
	}
	if count < 60000 {
		t.Error("too few lists:", count)
	}
}

// textAt is where a text stands.
func textAt(text string) memory {
	from := uintptr(unsafe.Pointer(unsafe.StringData(text)))
	return memory{from, from + uintptr(len(text))}
}

// R4: no name that is told stands in the memory of what was handed in, or of another one that is told.
func TestNamesAreNew(t *testing.T) {
	x := chapter()
	var where []memory
	for i := range x.Dirs {
		for j, n := range x.Dirs[i].Path {
			x.Dirs[i].Path[j] = strings.Clone(n)
			where = append(where, textAt(x.Dirs[i].Path[j]))
		}
	}
	l := drawn(t, x, 1)
	out := []all{ask(x, l), ask(x, l)}
	for _, a := range out {
		for _, drawing := range [][]chart.Spot{a.Drawn, a.Twisted, a.Turned, a.Flipped} {
			for _, s := range drawing {
				for _, n := range s.Path {
					where = append(where, textAt(n))
				}
			}
		}
	}
	for _, s := range l {
		for _, n := range s.Path {
			where = append(where, textAt(n))
		}
	}
	if len(where) != 60 || !apart(where) {
		t.Error("names share memory:", len(where))
	}
}

// R4: nil and empty lists are one.
func TestNilAndEmpty(t *testing.T) {
	for _, path := range [][]string{nil, {}, make([]string, 0, 5)} {
		x := grown("a")
		x.Dirs[0].Path = path
		draws(t, x, 0, []chart.Spot{spot("", 0, 0), spot("a", 1, 0)})
		turns(t, []chart.Spot{{Path: path, X: 1}}, 1, []chart.Spot{spot("", 0, 1)})
		reads(t, []chart.Spot{{Path: path}}, "0 0 /\n")
	}
	for _, l := range [][]chart.Spot{nil, {}, make([]chart.Spot, 0, 5)} {
		takenByAll(t, "no spot", l)
		reads(t, l, "")
	}
}

// R5: what is told hangs on what is handed in alone: it is the same each time, whatever room there is.
func TestSameAgain(t *testing.T) {
	s := source(11)
	for range 300 {
		x, l := s.someTree(), s.someDrawing()
		want := whole(ask(x, l))
		for range 3 {
			ask(s.someTree(), s.someDrawing())
			if got := whole(ask(roomyTree(x), roomy(l))); got != want {
				t.Fatalf("%s, not %s", short(got), short(want))
			}
		}
	}
}

// The limits and errors of this layer.
func TestNumbers(t *testing.T) {
	if api.MaxDirs != 256 || api.OK != 0 || api.ErrArg != 1 || api.ErrTree != 42 {
		t.Error("numbers:", api.MaxDirs, api.OK, api.ErrArg, api.ErrTree)
	}
}
