package plain_test

import (
	"cmp"
	"fmt"
	"reflect"
	"slices"
	"strings"
	"testing"
	"unsafe"

	"halyard/api"
	"halyard/catalog"
	"halyard/image"
	"halyard/plain"
)

// fresh is a value in memory of its own, at every depth, with so much spare room in its lists, full of marks.
func fresh(v reflect.Value, room int) reflect.Value {
	out := reflect.New(v.Type()).Elem()
	switch v.Kind() {
	case reflect.Struct:
		for i := range v.NumField() {
			out.Field(i).Set(fresh(v.Field(i), room))
		}
	case reflect.Slice:
		out.Set(reflect.MakeSlice(v.Type(), v.Len()+room, v.Len()+room))
		for i := range v.Len() {
			out.Index(i).Set(fresh(v.Index(i), room))
		}
		for i := range room {
			out.Index(v.Len() + i).Set(mark(v.Type().Elem()))
		}
		out.SetLen(v.Len())
	case reflect.String:
		out.SetString(strings.Clone(v.String()))
	default:
		out.Set(v)
	}
	return out
}

// mark is a value that stands nowhere else.
func mark(t reflect.Type) reflect.Value {
	out := reflect.New(t).Elem()
	switch t.Kind() {
	case reflect.Struct:
		for i := range t.NumField() {
			out.Field(i).Set(mark(t.Field(i).Type))
		}
	case reflect.String:
		out.SetString("mark")
	case reflect.Int:
		out.SetInt(-777)
	case reflect.Bool:
		out.SetBool(true)
	}
	return out
}

// copied is a value in memory of its own; roomy one whose lists have spare room, too.
func copied[T any](v T) T { return fresh(reflect.ValueOf(v), 0).Interface().(T) }

func roomy[T any](v T) T { return fresh(reflect.ValueOf(v), 3).Interface().(T) }

// lists goes through all lists of a value with their spare room, the outer ones first.
func lists(v reflect.Value, visit func(l reflect.Value)) {
	switch v.Kind() {
	case reflect.Struct:
		for i := range v.NumField() {
			lists(v.Field(i), visit)
		}
	case reflect.Slice:
		v = v.Slice(0, v.Cap())
		visit(v)
		for i := range v.Len() {
			lists(v.Index(i), visit)
		}
	}
}

// seen is all of a value, with the spare room of its lists, as a text.
func seen(v any) string {
	s := fmt.Sprint(v)
	lists(reflect.ValueOf(v), func(l reflect.Value) { s += fmt.Sprint(l) })
	return s
}

// spoil writes over all lists of a value and their spare room, the inner ones first.
func spoil(v any) {
	var all []reflect.Value
	lists(reflect.ValueOf(v), func(l reflect.Value) { all = append(all, l) })
	for _, l := range slices.Backward(all) {
		for i := range l.Len() {
			l.Index(i).Set(mark(l.Type().Elem()))
		}
	}
}

// memory is where a list, or a text, stands.
type memory struct {
	from, to uintptr
	what     string
}

// memories is where the lists of a value stand, with their spare room, and its texts.
func memories(v any) []memory {
	var out []memory
	var texts func(v reflect.Value)
	texts = func(v reflect.Value) {
		switch v.Kind() {
		case reflect.Struct:
			for i := range v.NumField() {
				texts(v.Field(i))
			}
		case reflect.Slice:
			for i := range v.Len() {
				texts(v.Index(i))
			}
		case reflect.String:
			if s := v.String(); s != "" {
				from := uintptr(unsafe.Pointer(unsafe.StringData(s)))
				out = append(out, memory{from, from + uintptr(len(s)), fmt.Sprintf("the text %.40q", s)})
			}
		}
	}
	texts(reflect.ValueOf(v))
	lists(reflect.ValueOf(v), func(l reflect.Value) {
		if n := uintptr(l.Len()) * l.Type().Elem().Size(); n > 0 {
			out = append(out, memory{l.Pointer(), l.Pointer() + n, l.Type().String()})
		}
	})
	return out
}

// apart tells a fault if two of these stand in the same memory.
func apart(t *testing.T, what string, l []memory) {
	t.Helper()
	slices.SortFunc(l, func(a, b memory) int { return cmp.Compare(a.from, b.from) })
	for i := range l {
		if i > 0 && l[i].from < l[i-1].to {
			t.Fatalf("%s: %s and %s share memory", what, l[i-1].what, l[i].what)
		}
	}
}

// given is all that may be handed in to one of the three calls, but for the catalog.
type given struct {
	S    api.State
	X    api.Step
	Pins []api.Pin
	Old  api.Tree
}

// told is what the three calls tell.
type told struct {
	Graph api.Graph
	Tree  api.Tree
	State api.State
}

// asks asks all three: for the search of a project's manifest, for the places of its graph, and for a step.
func (x given) asks(c *catalog.Catalog, l api.Limits) (told, [3]api.Errno) {
	g, _, e := plain.Resolve(c, x.S.Manifest, !x.S.Pruned, x.Pins, l)
	placed, f := plain.Place(x.S.Graph, c, l, &x.Old)
	next, a := plain.Do(x.S, c, x.X, l)
	return told{g, placed, next}, [3]api.Errno{e, f, a.Code}
}

// askings goes through many of these; visit asks them, and tells their errors.
func (s *source) askings(t *testing.T, count int, visit func(x given, c *catalog.Catalog, l api.Limits) [3]api.Errno) {
	t.Helper()
	met := [3]map[api.Errno]int{{}, {}, {}}
	s.mixed(t, count, func(p *session, x api.Step) {
		for i, e := range visit(given{S: p.s, X: x, Old: p.s.Tree, Pins: pins("a 1, b 2, aa 3, zz 1")}, p.c, p.l) {
			met[i][e]++
		}
	})
	enough(t, met[0], 5, api.OK, api.ErrArg, api.ErrUnsat)
	enough(t, met[1], 5, api.OK, api.ErrArg, api.ErrGraph)
	enough(t, met[2], 5, api.OK, api.ErrArg, api.ErrUnsat)
}

// stock is all of a catalog as a text; of none the empty one.
func stock(c *catalog.Catalog) string {
	if c == nil {
		return ""
	}
	return seen(c.All())
}

// R4: what is handed in stays as it was, its spare room too, whoever writes into what was told.
func TestHandedInStays(t *testing.T) {
	s := source(20)
	s.askings(t, 15, func(x given, c *catalog.Catalog, l api.Limits) [3]api.Errno {
		handed := roomy(x)
		want, packages := seen(handed), stock(c)
		answer, errors := handed.asks(c, l)
		if seen(handed) != want {
			t.Fatalf("%s: what was handed in is changed", flat(x))
		}
		spoil(answer)
		if seen(handed) != want || stock(c) != packages {
			t.Fatalf("%s: what was handed in is changed by who writes into what was told", flat(x))
		}
		return errors
	})
}

// R4: what is told stays, whatever becomes of what was handed in, or of what was told later.
func TestAnswersStay(t *testing.T) {
	s := source(21)
	s.askings(t, 15, func(x given, c *catalog.Catalog, l api.Limits) [3]api.Errno {
		handed := roomy(x)
		first, errors := handed.asks(c, l)
		other, _ := handed.asks(c, l)
		want := seen(first)
		third, _ := given{S: first.State, X: x.X, Old: first.Tree, Pins: x.Pins}.asks(c, l)
		spoil(handed)
		spoil(other)
		spoil(third)
		if seen(first) != want {
			t.Fatalf("%s: what was told is changed", flat(x))
		}
		return errors
	})
}

// R4: no two lists or texts of an answer, of two answers, or of an answer and of what was handed in share memory, their spare room neither.
func TestAnswersShareNothing(t *testing.T) {
	s := source(22)
	count := 0
	s.askings(t, 15, func(x given, c *catalog.Catalog, l api.Limits) [3]api.Errno {
		handed := roomy(x)
		first, errors := handed.asks(c, l)
		other, _ := handed.asks(c, l)
		of := slices.Concat(memories(handed), memories(first), memories(other))
		count += len(of)
		apart(t, flat(x), of)
		return errors
	})
	if count < 100000 {
		t.Error("too few:", count)
	}
}

// R4, R5: nil and empty lists are one, however much spare room there is; the same is told each time.
func TestSameAgain(t *testing.T) {
	s := source(23)
	s.askings(t, 15, func(x given, c *catalog.Catalog, l api.Limits) [3]api.Errno {
		want, errors := x.asks(c, l)
		// Of a copy no list is nil; of one with room none is without.
		for _, handed := range []given{x, copied(x), roomy(x)} {
			got, e := handed.asks(c, l)
			if e != errors || fmt.Sprint(got) != fmt.Sprint(want) {
				t.Fatalf("%s: %s, %v, then %s, %v", flat(x), flat(want), errors, flat(got), e)
			}
		}
		return errors
	})
}

// R5: the catalog is only asked: the order in which packages came into it does not matter, and what comes into it later counts then.
func TestCatalogIsAsked(t *testing.T) {
	s := source(24)
	for range 60 {
		l := s.somePacks()
		x := given{S: image.Empty(), X: add(pick(&s, few...), "*", 0)}
		s.someList(few, 4, &x.S.Manifest.Deps, &x.S.Manifest.Dev, &x.S.Manifest.Optional)
		x.Old = x.S.Tree
		want, errors := x.asks(filled(l), widest)
		slices.Reverse(l)
		if got, e := x.asks(filled(l), widest); e != errors || fmt.Sprint(got) != fmt.Sprint(want) {
			t.Fatalf("%s, the other way round: %v, not %v", flat(x), e, errors)
		}
	}
	p := begun(t)
	p.refuses(add("a", "*", 0), api.ErrUnsat)
	publish(p.c, "a 1.0.0")
	p.comesTo(add("a", "*", 0), 1, "a 1.0.0")
	publish(p.c, "a 2.0.0; needs b *")
	p.comesTo(install(), 2, "a 1.0.0")
	publish(p.c, "b 1.0.0")
	p.comesTo(install(), 2, "a 2.0.0", "b 1.0.0")
}
