package cli_test

import (
	"fmt"
	"reflect"
	"slices"
	"strings"
	"testing"
	"unsafe"

	"halyard/api"
	"halyard/image"
)

// kinds is raw writes, each as a text.
func kinds(l []api.Raw) []string {
	var out []string
	for _, r := range l {
		out = append(out, strings.TrimSpace([]string{"", "mkdir", "write", "rename", "remove"}[r.Kind]+" "+r.Path+" "+r.To))
	}
	return out
}

// tells tells a fault unless the raw writes of the last step are these.
func (p *session) tells(what string, want ...string) {
	p.t.Helper()
	if got := kinds(p.s.Raws()); !slices.Equal(got, want) {
		p.t.Errorf("%s: %s, not %s", what, got, want)
	}
}

// P22.3: Files: all that lies on the disk, by the paths, with the bytes; also what a command left there behind which the power went.
func TestFiles(t *testing.T) {
	p := begun(t, chapter()...)
	p.does(add("a", "*", 0))
	want := []api.File{
		{Path: "/lock", Data: "lock\nroot\nto a 1\nnode a 1.0.0\nto b 2\nnode b 1.2.0\n"},
		{Path: "/manifest", Data: "project\nneeds a *\n"},
		{Path: "/modules", Dir: true},
		{Path: "/modules/a", Dir: true},
		{Path: "/modules/a/package", Data: "package a 1.0.0\nneeds b >=1.0.0 <=1.999.999\n"},
		{Path: "/modules/b", Dir: true},
		{Path: "/modules/b/package", Data: "package b 1.2.0\n"},
	}
	if got := p.s.Files(); !slices.Equal(got, want) {
		t.Fatal(flat(got))
	}
	p.does(cut(4))
	p.answers(prune(), api.Answer{Code: api.ErrDown})
	got := p.s.Files()
	more := []api.File{{Path: "/journal", Dir: true}, {Path: "/journal/plan", Data: "plan\nput /pruned -\n"}, {Path: "/pruned"}}
	if left := slices.DeleteFunc(got, func(f api.File) bool { return slices.Contains(want, f) }); !slices.Equal(left, more) {
		t.Error(flat(left))
	}
	p.does(open())
	if got := p.s.Files(); !slices.Equal(got, append(want, api.File{Path: "/pruned"})) {
		t.Error(flat(got))
	}
}

// P22.3: Raws: those of the last Do alone, whatever that was: a command, an opening, or one that writes nothing, be it done or refused.
func TestRaws(t *testing.T) {
	p := begun(t, chapter()...)
	p.tells("a publish")
	plan := []string{"mkdir /journal", "write /journal/plan.new", "rename /journal/plan.new /journal/plan"}
	first := slices.Concat(plan, []string{"mkdir /modules", "mkdir /modules/a", "mkdir /modules/b", "write /lock", "write /manifest", "write /modules/a/package", "write /modules/b/package", "remove /journal/plan", "remove /journal"})
	for _, x := range []api.Step{publish("z 1.0.0"), publish("z 1.0.0"), text("x"), cut(100), cut(-1), open(), {Op: 0}, {Op: 11}, dedupe(), add("A", "*", 0), add("b", ">5.0.0", 0)} {
		p.does(add("a", "*", 0))
		p.tells("the first add", first...)
		p.tells("the first add, asked again", first...)
		p.asks(x)
		p.tells(flat(x))
		p.does(remove("a"))
		p.tells("the remove", slices.Concat(plan, []string{"remove /modules/b/package", "remove /modules/a/package", "remove /manifest", "remove /lock", "remove /modules/b", "remove /modules/a", "remove /modules", "remove /journal/plan", "remove /journal"})...)
	}
	for n := range 13 {
		q := p.clone()
		q.does(cut(n))
		q.tells("a cut")
		q.asks(add("a", "*", 0))
		q.tells("the first add, cut", first[:min(n, len(first))]...)
		q.asks(publish("y 1.0.0"))
		q.tells("a publish without power")
		if n < len(first) {
			q.refuses(remove("a"), api.ErrDown)
		}
		q.does(open())
		switch n {
		case 0, 12:
			q.tells("an opening")
		case 1:
			q.tells("an opening", "remove /journal")
		case 2:
			q.tells("an opening", "remove /journal/plan.new", "remove /journal")
		default:
			q.tells("an opening", first[n:]...)
		}
		q.does(open())
		q.tells("a second opening")
	}
}

// P22.3: State: the one behind each command that is done; behind one that was ended by ErrDown the one ahead of it, whatever is asked meanwhile, till the opening.
func TestState(t *testing.T) {
	count := 0
	for _, x := range some() {
		p := built(t)
		before := p.s.State()
		behind := p.clone()
		behind.asks(x)
		after, most := behind.s.State(), len(behind.s.Raws())
		for n := range most {
			q := p.clone()
			q.does(cut(n))
			q.answers(x, api.Answer{Code: api.ErrDown})
			for _, y := range append(some(), publish("y 1.0.0"), cut(1), api.Step{}) {
				if q.asks(y); !same(q.s.State(), before) {
					t.Fatalf("%s, cut behind %d, then %s: %s", flat(x), n, flat(y), flat(q.s.State()))
				}
			}
			want := before
			if n >= 3 {
				want = after
			}
			if q.does(open()); !same(q.s.State(), want) {
				t.Fatalf("%s, cut behind %d: %s", flat(x), n, flat(q.s.State()))
			}
			count++
		}
	}
	if count < 50 {
		t.Error("too few:", count)
	}
}

// P22.3: the power goes with the very last raw write of a command: all is done, so that it was not ended, and State is the one behind it, also while the power is off.
func TestStateLastWrite(t *testing.T) {
	p := begun(t, chapter()...)
	p.does(cut(12))
	p.answers(add("a", "*", 0), api.Answer{Decisions: 2, Nodes: 3, Dirs: 2})
	state := p.s.State()
	if same(state, image.Empty()) {
		t.Error(flat(state))
	}
	p.refuses(remove("a"), api.ErrDown)
	if got := p.s.State(); !same(got, state) {
		t.Error(flat(got))
	}
	p.answers(open(), api.Answer{Nodes: 3, Dirs: 2})
	p.tells("the opening")
}

// lists goes through all lists of a value with their spare room, the outer ones first.
func lists(v reflect.Value, visit func(l reflect.Value)) {
	switch v.Kind() {
	case reflect.Struct:
		for i := range v.NumField() {
			lists(v.Field(i), visit)
		}
	case reflect.Slice:
		v = v.Slice(0, v.Cap())
		visit(v)
		for i := range v.Len() {
			lists(v.Index(i), visit)
		}
	}
}

// mark is a value that stands nowhere else.
func mark(t reflect.Type) reflect.Value {
	out := reflect.New(t).Elem()
	switch t.Kind() {
	case reflect.Struct:
		for i := range t.NumField() {
			out.Field(i).Set(mark(t.Field(i).Type))
		}
	case reflect.String:
		out.SetString("mark")
	case reflect.Int:
		out.SetInt(-777)
	}
	return out
}

// told is all that a session tells.
type told struct {
	Files []api.File
	Raws  []api.Raw
	State api.State
}

func (p *session) told() told { return told{p.s.Files(), p.s.Raws(), p.s.State()} }

// spoil writes over all lists of what was told and their spare room, the inner ones first.
func spoil(x told) {
	var all []reflect.Value
	lists(reflect.ValueOf(x), func(l reflect.Value) { all = append(all, l) })
	for _, l := range slices.Backward(all) {
		for i := range l.Len() {
			l.Index(i).Set(mark(l.Type().Elem()))
		}
	}
}

// memory is where a list stands, with its spare room.
type memory struct{ from, to uintptr }

// listsOf is where the lists of what was told stand.
func listsOf(told ...told) []memory {
	var out []memory
	for _, x := range told {
		lists(reflect.ValueOf(x), func(l reflect.Value) {
			if n := uintptr(l.Len()) * l.Type().Elem().Size(); n > 0 {
				out = append(out, memory{l.Pointer(), l.Pointer() + n})
			}
		})
	}
	return out
}

// apart tells whether no two of these lists share memory.
func apart(l []memory) bool {
	slices.SortFunc(l, func(a, b memory) int { return int(int64(a.from) - int64(b.from)) })
	for i := range l {
		if i > 0 && l[i].from < l[i-1].to {
			return false
		}
	}
	return true
}

// P22.3, R4: what is told is the caller's own: no two lists of it, or of what is told twice, or by two sessions, share memory; whoever writes into it changes neither the session nor what it tells later, and a step changes nothing that was told ahead of it.
func TestToldIsOwn(t *testing.T) {
	s := source(2)
	count := 0
	for range 40 {
		packages := s.somePacks()
		p, q := within(t, greatest, packages[:20]...), within(t, greatest, packages[:20]...)
		for range 14 {
			x := s.someStep(true, packages)
			p.asks(x)
			q.asks(x)
			first, second := p.told(), p.told()
			if l := listsOf(first, second, q.told()); !apart(l) {
				t.Fatalf("lists of %s share memory", flat(first))
			} else {
				count += len(l)
			}
			want := fmt.Sprint(second)
			spoil(first)
			p.stands("what was told is written over")
			p.asks(s.someStep(true, packages))
			q = p.clone()
			if fmt.Sprint(second) != want {
				t.Fatalf("what was told ahead of a step is changed: %s", flat(second))
			}
		}
	}
	if count < 9000 {
		t.Error("too few lists:", count)
	}
}

// at is where a text stands.
func at(text string) memory {
	from := uintptr(unsafe.Pointer(unsafe.StringData(text)))
	return memory{from, from + uintptr(len(text))}
}

// R4: a step's texts are not kept: neither the catalog's packages nor the project's wants stand in them.
func TestStepNotKept(t *testing.T) {
	p := begun(t)
	steps := []api.Step{publish("aa 1.0.0; needs bb *"), publish("bb 1.0.0"), add(strings.Clone("aa"), strings.Clone(">=1.0.0"), 0), override(strings.Clone("bb"), strings.Clone("1.0.0"))}
	p.doesAll(steps...)
	now := p.s.State()
	names := []string{now.Manifest.Deps[0].Name, now.Manifest.Overrides[0].Name}
	for _, d := range now.Tree.Dirs[1:] {
		names = append(names, d.Pack.Name, d.Path[0])
	}
	for _, f := range p.s.Files() {
		if !f.Dir {
			names = append(names, f.Data)
		}
	}
	if len(names) < 10 {
		t.Error(names)
	}
	for _, x := range steps {
		for _, given := range []string{x.Pack, x.Name, x.Range} {
			for _, name := range names {
				if a, b := at(name), at(given); given != "" && a.from < b.to && b.from < a.to {
					t.Errorf("%q stands where a step's text does", name)
				}
			}
		}
	}
}
