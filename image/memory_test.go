package image_test

import (
	"fmt"
	"reflect"
	"slices"
	"testing"
	"unsafe"

	"halyard/api"
	"halyard/image"
)

// room is how many items of spare room the lists have that are handed in.
const room = 3

// fresh is a value in memory of its own, at every depth, with so much spare room in its lists, full of marks.
func fresh(v reflect.Value, room int) reflect.Value {
	out := reflect.New(v.Type()).Elem()
	switch v.Kind() {
	case reflect.Struct:
		for i := range v.NumField() {
			out.Field(i).Set(fresh(v.Field(i), room))
		}
	case reflect.Slice:
		out.Set(reflect.MakeSlice(v.Type(), v.Len()+room, v.Len()+room))
		for i := range v.Len() {
			out.Index(i).Set(fresh(v.Index(i), room))
		}
		for i := range room {
			out.Index(v.Len() + i).Set(mark(v.Type().Elem()))
		}
		out.SetLen(v.Len())
	case reflect.String:
		out.SetString(string([]byte(v.String())))
	default:
		out.Set(v)
	}
	return out
}

// mark is a value that stands nowhere else.
func mark(t reflect.Type) reflect.Value {
	out := reflect.New(t).Elem()
	switch t.Kind() {
	case reflect.Struct:
		for i := range t.NumField() {
			out.Field(i).Set(mark(t.Field(i).Type))
		}
	case reflect.String:
		out.SetString("mark")
	case reflect.Int:
		out.SetInt(-777)
	case reflect.Bool:
		out.SetBool(true)
	}
	return out
}

// copied is a value in memory of its own; roomy one whose lists have spare room, too.
func copied[T any](v T) T { return fresh(reflect.ValueOf(v), 0).Interface().(T) }

func roomy[T any](v T) T { return fresh(reflect.ValueOf(v), room).Interface().(T) }

// lists goes through all lists of a value with their spare room, the outer ones first.
func lists(v reflect.Value, visit func(l reflect.Value)) {
	switch v.Kind() {
	case reflect.Struct:
		for i := range v.NumField() {
			lists(v.Field(i), visit)
		}
	case reflect.Slice:
		v = v.Slice(0, v.Cap())
		visit(v)
		for i := range v.Len() {
			lists(v.Index(i), visit)
		}
	}
}

// whole is all of a value, with the spare room of its lists, as a text.
func whole(v any) string {
	s := fmt.Sprint(v)
	lists(reflect.ValueOf(v), func(l reflect.Value) { s += fmt.Sprint(l) })
	return s
}

// spoil writes over all lists of a value and their spare room, the inner ones first.
func spoil(v any) {
	var all []reflect.Value
	lists(reflect.ValueOf(v), func(l reflect.Value) { all = append(all, l) })
	for _, l := range slices.Backward(all) {
		for i := range l.Len() {
			l.Index(i).Set(mark(l.Type().Elem()))
		}
	}
}

// memory is where a list, or a text, stands.
type memory struct {
	from, to uintptr
	what     string
}

// listsOf is where the lists of a value stand, with their spare room.
func listsOf(v any) []memory {
	var out []memory
	lists(reflect.ValueOf(v), func(l reflect.Value) {
		if n := uintptr(l.Len()) * l.Type().Elem().Size(); n > 0 {
			out = append(out, memory{l.Pointer(), l.Pointer() + n, l.Type().String()})
		}
	})
	return out
}

// textsOf is where the texts of a value stand.
func textsOf(v any) []memory {
	var out []memory
	var visit func(v reflect.Value)
	visit = func(v reflect.Value) {
		switch v.Kind() {
		case reflect.Struct:
			for i := range v.NumField() {
				visit(v.Field(i))
			}
		case reflect.Slice:
			for i := range v.Len() {
				visit(v.Index(i))
			}
		case reflect.String:
			if s := v.String(); s != "" {
				from := uintptr(unsafe.Pointer(unsafe.StringData(s)))
				out = append(out, memory{from, from + uintptr(len(s)), fmt.Sprintf("the text %.40q", s)})
			}
		}
	}
	visit(reflect.ValueOf(v))
	return out
}

// apart tells a fault if two of these stand in the same memory.
func apart(t *testing.T, what string, l []memory) {
	t.Helper()
	slices.SortFunc(l, func(a, b memory) int { return int(int64(a.from) - int64(b.from)) })
	for i := range l {
		if i > 0 && l[i].from < l[i-1].to {
			t.Fatalf("%s: %s and %s share memory", what, l[i-1].what, l[i].what)
		}
	}
}

// sharesNothing tells a fault if a text of an answer stands in the memory of what was handed in.
func sharesNothing(t *testing.T, what string, answer, given []memory) {
	t.Helper()
	for _, a := range answer {
		for _, g := range given {
			if a.from < g.to && g.from < a.to {
				t.Fatalf("%s: %s stands where %s does that was handed in", what, a.what, g.what)
			}
		}
	}
}

// R4: what is handed in stays as it was, its spare room too, whoever writes into what was told.
func TestHandedInStays(t *testing.T) {
	s := source(20)
	met := 0
	for _, x := range s.mixed(150) {
		given := roomy(x)
		want := whole(given)
		l, _ := image.Files(given)
		if whole(given) != want {
			t.Fatalf("a state that was handed in is changed: %s", flat(x))
		}
		met += min(1, len(l))
		list := roomy(s.shuffled(l))
		wantList := whole(list)
		read, e := image.Read(list)
		if whole(list) != wantList {
			t.Fatalf("files that were handed in are changed: %s", flat(list))
		}
		spoil(l)
		spoil(read)
		if whole(given) != want || whole(list) != wantList {
			t.Fatalf("what was handed in is changed by who writes into what was told: %s, error %d", flat(x), e)
		}
	}
	if met < 150 {
		t.Error("too few:", met)
	}
}

// R4: files that are refused stay as they were, too.
func TestRefusedStays(t *testing.T) {
	s := source(21)
	for _, x := range s.mixed(100) {
		l, _ := image.Files(x)
		given := roomy(s.spoiltFiles(l))
		want := whole(given)
		image.Read(given)
		if whole(given) != want {
			t.Fatalf("files that were handed in are changed: %s", flat(given))
		}
	}
}

// R4: what is told stays, whatever becomes of what was handed in, or of what was told later.
func TestAnswersStay(t *testing.T) {
	s := source(22)
	for _, x := range s.mixed(100) {
		given := roomy(x)
		first, e := image.Files(given)
		if e != api.OK {
			continue
		}
		second, _ := image.Files(given)
		want := whole(first)
		list := roomy(first)
		read, _ := image.Read(list)
		again, _ := image.Read(list)
		wantRead := whole(read)
		spoil(given)
		spoil(second)
		spoil(list)
		spoil(again)
		if whole(first) != want || whole(read) != wantRead {
			t.Fatalf("what was told is changed: %s", flat(x))
		}
	}
	first := image.Empty()
	spoil(first)
	if got := image.Empty(); !same(got, drawnEmpty()) {
		t.Errorf("the empty state behind one that is spoilt: %s", flat(got))
	}
	read, _ := image.Read(nil)
	spoil(read)
	reads(t, "nothing, behind one that is spoilt", nil, drawnEmpty())
}

// R4: no two lists of one answer, or of two, share memory, their spare room neither; nor with what was handed in.
func TestListsShareNothing(t *testing.T) {
	s := source(23)
	for _, x := range append(s.mixed(60), image.Empty(), pruned(image.Empty()), rich(), crowded(6)) {
		given := roomy(x)
		first, e := image.Files(given)
		if e != api.OK {
			continue
		}
		second, _ := image.Files(given)
		apart(t, "Files", slices.Concat(listsOf(given), listsOf(first), listsOf(second)))
		sharesNothing(t, "Files", textsOf(first), textsOf(given))
		list := roomy(first)
		read, _ := image.Read(list)
		again, _ := image.Read(list)
		apart(t, "Read", slices.Concat(listsOf(list), listsOf(read), listsOf(again)))
		sharesNothing(t, "Read", textsOf(read), textsOf(list))
	}
	apart(t, "Empty", slices.Concat(listsOf(image.Empty()), listsOf(image.Empty())))
}

// R4: nil and empty lists are one, at every depth.
func TestNilAndEmpty(t *testing.T) {
	for _, x := range []api.State{image.Empty(), chapter(), rich(), pruned(image.Empty())} {
		// With no spare room each list without anything is empty, and not nil; with some it has room.
		want := filesOf(t, x)
		for _, given := range []api.State{copied(x), roomy(x)} {
			if got := filesOf(t, given); !slices.Equal(got, want) {
				t.Errorf("%s, not %s", flat(got), flat(want))
			}
		}
	}
	for _, l := range [][]api.File{nil, {}, make([]api.File, 0, 5), roomy([]api.File{})} {
		reads(t, "no files", l, drawnEmpty())
	}
	for _, nodes := range [][]api.Node{nil, {}, make([]api.Node, 0, 5)} {
		mayNot(t, "no nodes", api.State{Graph: api.Graph{Nodes: nodes}, Tree: api.Tree{Dirs: []api.Dir{{}}}})
	}
	for _, dirs := range [][]api.Dir{nil, {}, make([]api.Dir, 0, 5)} {
		mayNot(t, "no directories", api.State{Graph: drawn("root"), Tree: api.Tree{Dirs: dirs}})
	}
}
