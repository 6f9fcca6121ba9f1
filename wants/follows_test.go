package wants_test

import (
	"slices"
	"testing"

	"halyard/api"
	"halyard/wants"
)

// another is an environment that tells the same of the names of a context; else it may tell anything.
func (s *source) another(context []api.Pin) []api.Pin {
	env := slices.Clone(context)
	for _, p := range s.someEnv() {
		if !slices.ContainsFunc(context, func(n api.Pin) bool { return n.Name == p.Name }) {
			env = append(env, p)
		}
	}
	s.shuffle(env)
	// Behind its first Pin a name may be told of again.
	for range s.below(3) {
		if len(context) > 0 {
			env = append(env, api.Pin{Name: context[s.below(len(context))].Name, Version: s.someVersion()})
		}
	}
	return env
}

// A context that stands in an environment stands in each that tells the same of its Names, and is the same there.
func TestSameInAnother(t *testing.T) {
	s := source(2)
	stood := 0
	for range 1500 {
		x := s.someAsked()
		c := filled(x.all...)
		for _, p := range x.all {
			at := api.Pin{Name: p.Name, Version: p.Version}
			context, ok := wants.Context(c, x.m, x.env, at)
			if !ok {
				continue
			}
			if len(context) > 1 {
				stood++
			}
			for _, env := range [][]api.Pin{context, s.another(context), s.another(context)} {
				if got, ok := wants.Context(c, x.m, env, at); !ok || !slices.Equal(got, context) {
					t.Fatalf("Context of %v in %v: %v; in %v: %v, %v", at, x.env, context, env, got, ok)
				}
			}
		}
	}
	if stood < 1000 {
		t.Errorf("%d contexts stood", stood)
	}
}

// For each of a context's Names the context of that, in it, is a part of it.
func TestPartOfIt(t *testing.T) {
	s := source(3)
	parts := 0
	for range 1500 {
		x := s.someAsked()
		c := filled(x.all...)
		for _, p := range x.all {
			context, _ := wants.Context(c, x.m, x.env, api.Pin{Name: p.Name, Version: p.Version})
			for _, n := range context {
				part, ok := wants.Context(c, x.m, context, n)
				if !ok || slices.ContainsFunc(part, func(q api.Pin) bool { return !slices.Contains(context, q) }) {
					t.Fatalf("the context of %v in %v: %v, %v", n, context, part, ok)
				}
				if len(part) > 0 && len(part) < len(context) {
					parts++
				}
			}
		}
	}
	if parts < 300 {
		t.Errorf("%d contexts were other parts than none and all", parts)
	}
}

// P9.4: contexts are as the model tells them.
func TestContextAsModel(t *testing.T) {
	s := source(4)
	met := map[string]int{}
	for range 1500 {
		x := s.someAsked()
		c := filled(x.all...)
		for _, name := range few {
			for major := range 4 {
				p := api.Pin{Name: name, Version: version(major, 0, 0)}
				got, ok := wants.Context(c, x.m, x.env, p)
				want, stands := x.context(p)
				if ok != stands || !slices.Equal(got, want) {
					t.Fatalf("Context of %v in %v by %v of %v: %v, %v, not %v, %v", p, x.env, x.m.Overrides, x.all, got, ok, want, stands)
				}
				switch {
				case !ok:
					met["falls"]++
				case len(got) == 0:
					met["is empty"]++
				case len(got) > 2:
					met["is great"]++
				default:
					met["is small"]++
				}
			}
		}
	}
	for _, kind := range []string{"falls", "is empty", "is small", "is great"} {
		if met[kind] < 500 {
			t.Errorf("a context %s %d times", kind, met[kind])
		}
	}
}

// P9.1 to P9.3: wants are as the model tells them.
func TestWantsAsModel(t *testing.T) {
	s := source(5)
	for range 2000 {
		p := api.Package{Name: s.someName(), Version: s.someVersion(), Deps: s.someDeps(6), Peers: s.someDeps(6), Optional: s.someDeps(6)}
		m := api.Manifest{Deps: s.someDeps(6), Dev: s.someDeps(6), Optional: s.someDeps(6), Overrides: s.someDeps(4)}
		asModel(t, p, m)
	}
}

// asModel tells a fault unless all that may be asked of a package and a manifest is answered as the model does.
func asModel(t *testing.T, p api.Package, m api.Manifest) {
	t.Helper()
	if got, want := flat(wants.Of(p, m)), flat(modelOf(p, m)); got != want {
		t.Fatalf("Of(%v, %v): %s, not %s", p, m, short(got), short(want))
	}
	if got, want := flatDeps(wants.Peers(p, m)), flatDeps(modelPeers(p, m)); got != want {
		t.Fatalf("Peers(%v, %v): %s, not %s", p, m, short(got), short(want))
	}
	for _, dev := range []bool{true, false} {
		if got, want := flat(wants.OfRoot(m, dev)), flat(modelOfRoot(m, dev)); got != want {
			t.Fatalf("OfRoot(%v, %v): %s, not %s", m, dev, short(got), short(want))
		}
	}
	for _, d := range slices.Concat(p.Deps, p.Peers, p.Optional) {
		if got, want := flatRange(wants.Range(m, d)), flatRange(modelRange(m, d)); got != want {
			t.Fatalf("Range(%v, %v): %s, not %s", m, d, short(got), short(want))
		}
	}
}
