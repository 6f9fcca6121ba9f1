package edit_test

import (
	"fmt"
	"reflect"
	"slices"
	"testing"
	"unsafe"

	"halyard/api"
	"halyard/catalog"
	"halyard/edit"
	"halyard/image"
)

// room is how many items of spare room the lists have that are handed in.
const room = 3

// fresh is a value in memory of its own, at every depth, with so much spare room in its lists, full of marks.
func fresh(v reflect.Value, room int) reflect.Value {
	out := reflect.New(v.Type()).Elem()
	switch v.Kind() {
	case reflect.Struct:
		for i := range v.NumField() {
			out.Field(i).Set(fresh(v.Field(i), room))
		}
	case reflect.Slice:
		out.Set(reflect.MakeSlice(v.Type(), v.Len()+room, v.Len()+room))
		for i := range v.Len() {
			out.Index(i).Set(fresh(v.Index(i), room))
		}
		for i := range room {
			out.Index(v.Len() + i).Set(mark(v.Type().Elem()))
		}
		out.SetLen(v.Len())
	case reflect.String:
		out.SetString(string([]byte(v.String())))
	default:
		out.Set(v)
	}
	return out
}

// mark is a value that stands nowhere else.
func mark(t reflect.Type) reflect.Value {
	out := reflect.New(t).Elem()
	switch t.Kind() {
	case reflect.Struct:
		for i := range t.NumField() {
			out.Field(i).Set(mark(t.Field(i).Type))
		}
	case reflect.String:
		out.SetString("mark")
	case reflect.Int:
		out.SetInt(-777)
	case reflect.Bool:
		out.SetBool(true)
	}
	return out
}

// copied is a value in memory of its own; roomy one whose lists have spare room, too.
func copied[T any](v T) T { return fresh(reflect.ValueOf(v), 0).Interface().(T) }

func roomy[T any](v T) T { return fresh(reflect.ValueOf(v), room).Interface().(T) }

// lists goes through all lists of a value with their spare room, the outer ones first.
func lists(v reflect.Value, visit func(l reflect.Value)) {
	switch v.Kind() {
	case reflect.Struct:
		for i := range v.NumField() {
			lists(v.Field(i), visit)
		}
	case reflect.Slice:
		v = v.Slice(0, v.Cap())
		visit(v)
		for i := range v.Len() {
			lists(v.Index(i), visit)
		}
	}
}

// whole is all of a value, with the spare room of its lists, as a text.
func whole(v any) string {
	s := fmt.Sprint(v)
	lists(reflect.ValueOf(v), func(l reflect.Value) { s += fmt.Sprint(l) })
	return s
}

// spoil writes over all lists of a value and their spare room, the inner ones first.
func spoil(v any) {
	var all []reflect.Value
	lists(reflect.ValueOf(v), func(l reflect.Value) { all = append(all, l) })
	for _, l := range slices.Backward(all) {
		for i := range l.Len() {
			l.Index(i).Set(mark(l.Type().Elem()))
		}
	}
}

// memory is where a list, or a text, stands.
type memory struct {
	from, to uintptr
	what     string
}

// listsOf is where the lists of a value stand, with their spare room.
func listsOf(v any) []memory {
	var out []memory
	lists(reflect.ValueOf(v), func(l reflect.Value) {
		if n := uintptr(l.Len()) * l.Type().Elem().Size(); n > 0 {
			out = append(out, memory{l.Pointer(), l.Pointer() + n, l.Type().String()})
		}
	})
	return out
}

// textsOf is where the texts of a value stand.
func textsOf(v any) []memory {
	var out []memory
	var visit func(v reflect.Value)
	visit = func(v reflect.Value) {
		switch v.Kind() {
		case reflect.Struct:
			for i := range v.NumField() {
				visit(v.Field(i))
			}
		case reflect.Slice:
			for i := range v.Len() {
				visit(v.Index(i))
			}
		case reflect.String:
			if s := v.String(); s != "" {
				from := uintptr(unsafe.Pointer(unsafe.StringData(s)))
				out = append(out, memory{from, from + uintptr(len(s)), fmt.Sprintf("the text %.40q", s)})
			}
		}
	}
	visit(reflect.ValueOf(v))
	return out
}

// apart tells a fault if two of these stand in the same memory.
func apart(t *testing.T, what string, l []memory) {
	t.Helper()
	slices.SortFunc(l, func(a, b memory) int { return int(int64(a.from) - int64(b.from)) })
	for i := range l {
		if i > 0 && l[i].from < l[i-1].to {
			t.Fatalf("%s: %s and %s share memory", what, l[i-1].what, l[i].what)
		}
	}
}

// sharesNothing tells a fault if a text of an answer stands in the memory of what was handed in.
func sharesNothing(t *testing.T, what string, answer, given []memory) {
	t.Helper()
	for _, a := range answer {
		for _, g := range given {
			if a.from < g.to && g.from < a.to {
				t.Fatalf("%s: %s stands where %s does that was handed in", what, a.what, g.what)
			}
		}
	}
}

// stock is all of a catalog as a text; of none the empty one.
func stock(c *catalog.Catalog) string {
	if c == nil {
		return ""
	}
	return whole(c.All())
}

// R4: what is handed in stays as it was, its spare room too, whoever writes into what was told.
func TestHandedInStays(t *testing.T) {
	s := source(20)
	errors := map[api.Errno]int{}
	s.mixed(t, 30, func(p *session, x api.Step) {
		given := roomy(p.s)
		want := whole(given)
		all := stock(p.c)
		next, a := edit.Do(given, p.c, x, p.l)
		errors[a.Code]++
		if whole(given) != want {
			t.Fatalf("%s: a state that was handed in is changed: %s", told(x), flat(p.s))
		}
		spoil(next)
		if whole(given) != want {
			t.Fatalf("%s: a state that was handed in is changed by who writes into what was told: %s", told(x), flat(p.s))
		}
		if stock(p.c) != all {
			t.Fatalf("%s: the catalog is changed", told(x))
		}
	})
	if errors[api.OK] < 200 || errors[api.ErrArg] < 50 || errors[api.ErrUnsat] < 50 {
		t.Error("too few of a kind:", errors)
	}
}

// R4: what is told stays, whatever becomes of what was handed in, or of what was told later.
func TestAnswersStay(t *testing.T) {
	s := source(21)
	s.mixed(t, 30, func(p *session, x api.Step) {
		given := roomy(p.s)
		first, _ := edit.Do(given, p.c, x, p.l)
		second, _ := edit.Do(given, p.c, x, p.l)
		want := whole(first)
		third, _ := edit.Do(first, p.c, x, p.l)
		spoil(given)
		spoil(second)
		spoil(third)
		if whole(first) != want {
			t.Fatalf("%s of %s: what was told is changed", told(x), flat(p.s))
		}
	})
}

// R4: no two lists of one answer, or of two, share memory, their spare room neither; nor with what was handed in; nor do texts with those that were handed in.
func TestListsShareNothing(t *testing.T) {
	s := source(22)
	s.mixed(t, 30, func(p *session, x api.Step) {
		given, step := roomy(p.s), copied(x)
		first, _ := edit.Do(given, p.c, step, p.l)
		second, _ := edit.Do(given, p.c, step, p.l)
		apart(t, told(x), slices.Concat(listsOf(given), listsOf(first), listsOf(second)))
		sharesNothing(t, told(x), textsOf(first), slices.Concat(textsOf(given), textsOf(step), textsOf(second)))
	})
}

// R4: nil and empty lists are one, at every depth.
func TestNilAndEmpty(t *testing.T) {
	p := standing(t)
	q := begun(t, p.c)
	for _, x := range append(asked(), wrong()...) {
		for _, of := range []*session{p, q} {
			next, a := of.asModel(x)
			// With no spare room each list without anything is empty, and not nil; with some it has room.
			for _, given := range []api.State{copied(of.s), roomy(of.s)} {
				if got, b := edit.Do(given, of.c, x, of.l); b != a || !same(got, next) {
					t.Errorf("%s of %s: %+v, not %+v", told(x), flat(of.s), b, a)
				}
			}
		}
	}
	empty := image.Empty()
	empty.Manifest = api.Manifest{Deps: []api.Dep{}, Dev: make([]api.Dep, 0, 4), Optional: []api.Dep{}, Overrides: []api.Dep{}}
	q.s = empty
	q.comesTo(install(), 0)
}
