package copies_test

import (
	"fmt"
	"reflect"
	"slices"
	"testing"
	"unsafe"

	"halyard/api"
	"halyard/copies"
)

func version(major int) api.Version { return api.Version{Major: major, Minor: 2, Patch: 3} }

func wants(names ...string) []api.Dep {
	var l []api.Dep
	for _, n := range names {
		l = append(l, api.Dep{Name: n, Range: []api.Span{{Lo: version(1), Hi: version(2)}, {Lo: version(4), Hi: version(5)}}})
	}
	return l
}

// rich is a state with some of all.
func rich() api.State {
	p := api.Package{Name: "a", Version: version(1), Deps: wants("b", "c"), Peers: wants("d"), Optional: wants("e", "f")}
	return api.State{
		Manifest: api.Manifest{Deps: wants("a", "b"), Dev: wants("c"), Optional: wants("d", "e"), Overrides: wants("a")},
		Graph: api.Graph{Nodes: []api.Node{
			{Edges: []api.Edge{{Label: "a", To: 1}, {Label: "b", To: 2}}},
			{Name: "a", Version: version(1), Context: []api.Pin{{Name: "b", Version: version(2)}, {Name: "c", Version: version(3)}}, Edges: []api.Edge{{Label: "b", To: 2}}},
			{Name: "b", Version: version(2)},
		}},
		Tree:   api.Tree{Dirs: []api.Dir{{}, {Path: []string{"b", "a"}, Pack: p, Node: 7}, {Path: []string{"a"}, Pack: p, Node: -1}}},
		Pruned: true,
	}
}

// text is all of a value as a text, in which nil and empty lists are one.
func text(v any) string { return fmt.Sprintf("%+v", v) }

// A copy is the same, be it of what may be or not.
func TestSame(t *testing.T) {
	s := rich()
	for _, x := range [][2]any{
		{copies.State(s), s}, {copies.Manifest(s.Manifest), s.Manifest}, {copies.Graph(s.Graph), s.Graph}, {copies.Tree(s.Tree), s.Tree}, {copies.Path(s.Tree.Dirs[1].Path), s.Tree.Dirs[1].Path},
		{copies.State(api.State{}), api.State{}}, {copies.Manifest(api.Manifest{}), api.Manifest{}}, {copies.Graph(api.Graph{}), api.Graph{}}, {copies.Tree(api.Tree{}), api.Tree{}}, {copies.Path(nil), []string{}},
	} {
		if text(x[0]) != text(x[1]) {
			t.Errorf("%s, not %s", text(x[0]), text(x[1]))
		}
	}
	s.Pruned = false
	if copies.State(s).Pruned {
		t.Error("a copy is pruned, and the state is not")
	}
}

// memory is where a list, with its spare room, or a text stands.
type memory struct{ from, to uintptr }

// memories is where all lists and texts of a value stand.
func memories(v reflect.Value) []memory {
	var l []memory
	switch v.Kind() {
	case reflect.Struct:
		for i := range v.NumField() {
			l = append(l, memories(v.Field(i))...)
		}
	case reflect.Slice:
		if v.Cap() > 0 {
			l = append(l, memory{v.Pointer(), v.Pointer() + uintptr(v.Cap())*v.Type().Elem().Size()})
		}
		for i := range v.Len() {
			l = append(l, memories(v.Index(i))...)
		}
	case reflect.String:
		if s := v.String(); s != "" {
			from := uintptr(unsafe.Pointer(unsafe.StringData(s)))
			l = append(l, memory{from, from + uintptr(len(s))})
		}
	}
	return l
}

// A copy has no memory of what was copied, nor of another copy, and no two lists or texts of it share any.
func TestOwnMemory(t *testing.T) {
	s := rich()
	first, second := memories(reflect.ValueOf(copies.State(s))), memories(reflect.ValueOf(copies.State(s)))
	given := memories(reflect.ValueOf(s))
	if len(first) != len(given) || len(first) < 60 {
		t.Fatal("too few:", len(first), len(given))
	}
	for _, others := range [][]memory{given, second} {
		for _, a := range first {
			for _, b := range others {
				if a.from < b.to && b.from < a.to {
					t.Fatal("a copy has memory that is not its own")
				}
			}
		}
	}
	slices.SortFunc(first, func(a, b memory) int { return int(int64(a.from) - int64(b.from)) })
	for i := range first {
		if i > 0 && first[i].from < first[i-1].to {
			t.Fatal("two lists or texts of a copy share memory")
		}
	}
}
