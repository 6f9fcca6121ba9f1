package project_test

import (
	"reflect"
	"slices"
	"strings"
	"testing"
	"unsafe"

	"halyard/api"
	"halyard/project"
)

// lists goes through all lists of a value with their spare room, the outer ones first.
func lists(v reflect.Value, visit func(l reflect.Value)) {
	switch v.Kind() {
	case reflect.Struct:
		for i := range v.NumField() {
			lists(v.Field(i), visit)
		}
	case reflect.Slice:
		v = v.Slice(0, v.Cap())
		visit(v)
		for i := range v.Len() {
			lists(v.Index(i), visit)
		}
	}
}

// spoil writes over all lists of a state and their spare room, the inner ones first.
func spoil(s api.State) {
	var all []reflect.Value
	lists(reflect.ValueOf(s), func(l reflect.Value) { all = append(all, l) })
	for _, l := range slices.Backward(all) {
		for i := range l.Len() {
			l.Index(i).Set(mark(l.Type().Elem()))
		}
	}
}

// mark is a value that stands nowhere else.
func mark(t reflect.Type) reflect.Value {
	out := reflect.New(t).Elem()
	switch t.Kind() {
	case reflect.Struct:
		for i := range t.NumField() {
			out.Field(i).Set(mark(t.Field(i).Type))
		}
	case reflect.String:
		out.SetString("mark")
	case reflect.Int:
		out.SetInt(-777)
	}
	return out
}

// memory is where a list stands, with its spare room.
type memory struct{ from, to uintptr }

// listsOf is where the lists of states stand.
func listsOf(states ...api.State) []memory {
	var out []memory
	for _, s := range states {
		lists(reflect.ValueOf(s), func(l reflect.Value) {
			if n := uintptr(l.Len()) * l.Type().Elem().Size(); n > 0 {
				out = append(out, memory{l.Pointer(), l.Pointer() + n})
			}
		})
	}
	return out
}

// apart tells whether no two of these lists share memory.
func apart(l []memory) bool {
	slices.SortFunc(l, func(a, b memory) int { return int(int64(a.from) - int64(b.from)) })
	for i := range l {
		if i > 0 && l[i].from < l[i-1].to {
			return false
		}
	}
	return true
}

// at is where a text stands.
func at(text string) memory {
	from := uintptr(unsafe.Pointer(unsafe.StringData(text)))
	return memory{from, from + uintptr(len(text))}
}

// R4: State is the caller's own: no two lists of it, or of two, share memory; whoever writes into it changes neither the project nor what it tells later.
func TestStateIsOwn(t *testing.T) {
	s := source(4)
	count := 0
	s.walks(t, 60, func(p *session, x api.Step) {
		before := p.now
		first, second := p.p.State(), p.p.State()
		if l := listsOf(first, second); !apart(l) {
			t.Fatalf("lists of %s share memory", flat(first))
		} else {
			count += len(l)
		}
		spoil(first)
		p.stands("what was told is written over")
		p.asks(x)
		third := p.p.State()
		spoil(third)
		p.asks(x)
		if !same(second, before) {
			t.Fatalf("%s: what was told ahead of it is changed", flat(x))
		}
	})
	if count < 9000 {
		t.Error("too few lists:", count)
	}
}

// R4: no two projects share what they tell, on one disk neither.
func TestProjectsShareNothing(t *testing.T) {
	p := built(t)
	first := p.p
	p.opens()
	if !apart(listsOf(first.State(), p.p.State())) {
		t.Error("two projects of one disk share memory")
	}
	spoil(first.State())
	p.stands("what another project told is written over")
}

// R4: a step's texts are not kept.
func TestStepNotKept(t *testing.T) {
	p := begun(t, published(whole()...))
	x := add(strings.Clone("a"), strings.Clone(">=1.0.0"), 0)
	y := override(strings.Clone("b"), strings.Clone("1.0.0"))
	p.doesAll(x, y)
	m := p.p.State().Manifest
	for _, name := range []string{m.Deps[0].Name, m.Overrides[0].Name} {
		for _, given := range []string{x.Name, x.Range, y.Name, y.Range} {
			if a, b := at(name), at(given); a.from < b.to && b.from < a.to {
				t.Errorf("%q stands where a step's text does", name)
			}
		}
	}
}

// P20.1, R4: the disk and the catalog are kept, and are the ones that were handed in: another project with them goes on where this one stopped.
func TestKept(t *testing.T) {
	p := begun(t, published(whole()...))
	p.does(add("a", "*", 0))
	q, e := project.Open(p.d, p.c, p.l)
	if e != api.OK || !same(q.State(), p.now) {
		t.Fatal(e)
	}
	p.p = q
	p.does(add("c", "*", 0))
	publish(p.c, "c 1.1.0")
	p.does(update("c"))
	p.has("/modules/c/package", "package c 1.1.0\n")
}
