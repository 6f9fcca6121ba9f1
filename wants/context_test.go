package wants_test

import (
	"fmt"
	"slices"
	"strings"
	"testing"

	"halyard/api"
	"halyard/catalog"
	"halyard/wants"
)

var none api.Manifest

// The chapter's examples.
func TestExamples(t *testing.T) {
	c := filled(packages("p 1.0.0: q ^1.0.0", "q 1.1.0: r", "q 2.0.0", "r 1.0.0")...)
	stands(t, c, none, "q 1.1.0, r 1.0.0, s 9.0.0", "p 1.0.0", "q 1.1.0, r 1.0.0")
	falls(t, c, none, "q 1.1.0", "p 1.0.0")
	falls(t, c, none, "q 2.0.0", "p 1.0.0")
	falls(t, c, none, "q 1.2.0, r 1.0.0", "p 1.0.0")
	falls(t, c, none, "q 1.1.0, r 1.0.0, s 9.0.0", "p 2.0.0")
	stands(t, c, none, "", "r 1.0.0", "")
	stands(t, c, over("q 2.0.0"), "q 2.0.0", "p 1.0.0", "q 2.0.0")
	p := api.Package{Deps: deps("b", "c"), Optional: deps("a")}
	tells(t, "Of", wants.Of(p, over("b 1.0.0")), "a may *, b must 1.0.0, c must *")
}

// P9.4: without a catalog there is no context.
func TestNoCatalog(t *testing.T) {
	for _, env := range []string{"", "q 1.0.0", "p 1.0.0, q 1.0.0"} {
		falls(t, nil, none, env, "p 1.0.0")
		falls(t, nil, over("p", "q"), env, "p 1.0.0")
		falls(t, catalog.New(), none, env, "p 1.0.0")
	}
	if got, ok := wants.Context(nil, none, nil, api.Pin{}); ok || len(got) != 0 {
		t.Errorf("Context of nothing: %v, %v", got, ok)
	}
}

// P9.4: of a package that is not in the catalog no context stands, whatever the environment tells of it.
func TestNoPackage(t *testing.T) {
	c := filled(packages("p 1.0.0", "q 1.0.0", "r 1.0.0: p")...)
	for _, p := range []string{"p 2.0.0", "p 0.0.0", "p 1.0.1", "q 0.999.999", "pp 1.0.0", "P 1.0.0", " 1.0.0", "p -1.0.0", "p 1000.0.0", "s 1.0.0"} {
		falls(t, c, none, "", p)
		falls(t, c, none, "p 1.0.0, q 1.0.0, r 1.0.0", p)
		falls(t, c, over("p", "q", "s"), p+", p 1.0.0, q 1.0.0", p)
	}
	for _, name := range noNames() {
		if got, ok := wants.Context(c, none, pins("p 1.0.0"), api.Pin{Name: name, Version: version(1, 0, 0)}); ok || len(got) != 0 {
			t.Errorf("Context of %q: %v, %v", short(name), got, ok)
		}
	}
	for _, v := range noVersions() {
		if got, ok := wants.Context(c, none, pins("p 1.0.0"), api.Pin{Name: "p", Version: v}); ok || len(got) != 0 {
			t.Errorf("Context of p %v: %v, %v", v, got, ok)
		}
	}
}

// P9.4: the context of a package without Peers is none, and stands in every environment.
func TestNoPeers(t *testing.T) {
	p := api.Package{Name: "p", Version: version(1, 0, 0), Deps: deps("q"), Optional: deps("r")}
	c := filled(append(packages("q 1.0.0: r", "r 1.0.0"), p)...)
	for _, env := range []string{"", "q 1.0.0", "p 1.0.0, r 1.0.0", "p 2.0.0, q 9.0.0, z 1.0.0"} {
		stands(t, c, none, env, "p 1.0.0", "")
		stands(t, c, over("p 3.0.0", "q 3.0.0"), env, "p 1.0.0", "")
	}
}

// P9.4: the environment tells of all Names of the context; in an empty one only that of none stands.
func TestEnvironmentTells(t *testing.T) {
	c := filled(packages("p 1.0.0: q, r", "q 1.0.0", "r 1.0.0", "s 1.0.0: q", "o 1.0.0: p")...)
	stands(t, c, none, "q 1.0.0, r 1.0.0", "p 1.0.0", "q 1.0.0, r 1.0.0")
	for _, env := range []string{"", "q 1.0.0", "r 1.0.0", "q 1.0.0, s 1.0.0", "p 1.0.0", "Q 1.0.0, r 1.0.0", "q 1.0.0, rr 1.0.0"} {
		falls(t, c, none, env, "p 1.0.0")
	}
	falls(t, c, none, "p 1.0.0, q 1.0.0", "o 1.0.0")
	falls(t, c, none, "q 1.0.0, r 1.0.0", "o 1.0.0")
	falls(t, c, none, "", "s 1.0.0")
	stands(t, c, none, "p 1.0.0, q 1.0.0, r 1.0.0", "o 1.0.0", "p 1.0.0, q 1.0.0, r 1.0.0")
	// The version 0.0.0 is one like others: it is not what stands for a name that is not told of.
	zero := filled(packages("p 0.0.0: q", "q 0.0.0")...)
	stands(t, zero, none, "q 0.0.0", "p 0.0.0", "q 0.0.0")
	falls(t, zero, none, "", "p 0.0.0")
	falls(t, zero, none, "p 0.0.0", "p 0.0.0")
}

// P9.4: of a Name that stands in the environment several times its first Pin counts.
func TestFirstPin(t *testing.T) {
	c := filled(packages("p 1.0.0: q <=2.0.0", "q 1.0.0", "q 2.0.0: r", "q 3.0.0", "r 1.0.0")...)
	stands(t, c, none, "q 1.0.0, q 2.0.0, q 3.0.0", "p 1.0.0", "q 1.0.0")
	stands(t, c, none, "r 1.0.0, q 1.0.0, q 9.0.0, q 2.0.0", "p 1.0.0", "q 1.0.0")
	stands(t, c, none, "q 2.0.0, q 1.0.0, r 1.0.0, r 2.0.0", "p 1.0.0", "q 2.0.0, r 1.0.0")
	stands(t, c, none, "q 1.0.0, q 1.0.0", "p 1.0.0", "q 1.0.0")
	falls(t, c, none, "q 2.0.0, q 1.0.0", "p 1.0.0")
	falls(t, c, none, "q 3.0.0, q 1.0.0, q 2.0.0, r 1.0.0", "p 1.0.0")
	falls(t, c, none, "q 9.0.0, q 1.0.0", "p 1.0.0")
	falls(t, c, none, "q 2.0.0, r 2.0.0, r 1.0.0", "p 1.0.0")
}

// P9.4: all packages of the context are in the catalog, in the versions that the environment tells.
func TestVersionsAreThere(t *testing.T) {
	c := filled(packages("p 1.0.0: q", "q 1.0.0", "q 2.0.0: r", "r 1.0.0: s", "s 1.0.0")...)
	stands(t, c, none, "q 1.0.0", "p 1.0.0", "q 1.0.0")
	stands(t, c, none, "q 2.0.0, r 1.0.0, s 1.0.0", "p 1.0.0", "q 2.0.0, r 1.0.0, s 1.0.0")
	for _, env := range []string{"q 3.0.0", "q 1.0.1", "q 3.0.0, r 1.0.0, s 1.0.0", "q 2.0.0, r 2.0.0, s 1.0.0", "q 2.0.0, r 1.0.0, s 2.0.0", "q 1000.0.0", "q -1.0.0"} {
		falls(t, c, none, env, "p 1.0.0")
	}
	// What is not in the context need not be there.
	stands(t, c, none, "q 1.0.0, r 7.0.0, s 8.0.0, p 9.0.0", "p 1.0.0", "q 1.0.0")
	only := filled(packages("p 1.0.0: q")...)
	falls(t, only, none, "q 1.0.0", "p 1.0.0")
}

// P9.4: the version of each Peer, of the package or of one of its context, is in that Peer's range.
func TestVersionsAreInRange(t *testing.T) {
	c := filled(packages("p 1.0.0: q >=2.0.0, r <=2.0.0", "q 1.0.0", "q 2.0.0", "q 3.0.0: r >=2.0.0, s 1.0.0 || 3.0.0", "r 1.0.0", "r 2.0.0", "r 3.0.0", "s 1.0.0: q 3.0.0", "s 2.0.0", "s 3.0.0: q 2.0.0")...)
	stands(t, c, none, "q 2.0.0, r 1.0.0", "p 1.0.0", "q 2.0.0, r 1.0.0")
	stands(t, c, none, "q 2.0.0, r 2.0.0, s 2.0.0", "p 1.0.0", "q 2.0.0, r 2.0.0")
	stands(t, c, none, "q 3.0.0, r 2.0.0, s 1.0.0", "p 1.0.0", "q 3.0.0, r 2.0.0, s 1.0.0")
	for _, env := range []string{
		"q 1.0.0, r 1.0.0",          // the package's first Peer
		"q 2.0.0, r 3.0.0",          // its second one
		"q 3.0.0, r 1.0.0, s 1.0.0", // in the package's range, outside that of one of its context
		"q 3.0.0, r 3.0.0, s 1.0.0", // the other way round
		"q 3.0.0, r 2.0.0, s 2.0.0", // a Peer of a Peer
		"q 3.0.0, r 2.0.0, s 3.0.0", // a name that was met before, outside the range of what is met later
	} {
		falls(t, c, none, env, "p 1.0.0")
	}
}

// P9.4: the ranges are those by the manifest, of the package's Peers and of its context's.
func TestOverriddenContext(t *testing.T) {
	c := filled(packages("p 1.0.0: q 1.0.0", "q 1.0.0: r 1.0.0", "q 2.0.0: r 2.0.0", "r 1.0.0", "r 2.0.0")...)
	stands(t, c, none, "q 1.0.0, r 1.0.0", "p 1.0.0", "q 1.0.0, r 1.0.0")
	falls(t, c, none, "q 2.0.0, r 2.0.0", "p 1.0.0")
	stands(t, c, over("q 2.0.0"), "q 2.0.0, r 2.0.0", "p 1.0.0", "q 2.0.0, r 2.0.0")
	stands(t, c, over("q"), "q 2.0.0, r 2.0.0", "p 1.0.0", "q 2.0.0, r 2.0.0")
	falls(t, c, over("q 2.0.0"), "q 1.0.0, r 1.0.0", "p 1.0.0")
	falls(t, c, none, "q 1.0.0, r 2.0.0", "p 1.0.0")
	stands(t, c, over("r 2.0.0"), "q 1.0.0, r 2.0.0", "p 1.0.0", "q 1.0.0, r 2.0.0")
	falls(t, c, over("r 2.0.0"), "q 1.0.0, r 1.0.0", "p 1.0.0")
	falls(t, c, over("r 2.0.0"), "q 2.0.0, r 2.0.0", "p 1.0.0")
	stands(t, c, over("q", "r"), "q 2.0.0, r 1.0.0", "p 1.0.0", "q 2.0.0, r 1.0.0")
	// The first Override holds; one of another name, or of the package's own, changes nothing.
	stands(t, c, over("q 2.0.0", "q 1.0.0"), "q 2.0.0, r 2.0.0", "p 1.0.0", "q 2.0.0, r 2.0.0")
	falls(t, c, over("q 1.0.0", "q 2.0.0"), "q 2.0.0, r 2.0.0", "p 1.0.0")
	stands(t, c, over("p 9.0.0", "s 9.0.0"), "q 1.0.0, r 1.0.0", "p 1.0.0", "q 1.0.0, r 1.0.0")
	// What else the manifest wants is no Override.
	stands(t, c, api.Manifest{Deps: deps("q 9.0.0"), Dev: deps("r 9.0.0"), Optional: deps("q 8.0.0")}, "q 1.0.0, r 1.0.0", "p 1.0.0", "q 1.0.0, r 1.0.0")
}

// P9.4: no version is in an Override's range that is that of none, or may not be.
func TestOverriddenByNoRange(t *testing.T) {
	c := filled(packages("p 1.0.0: q", "q 1.0.0")...)
	for _, r := range append(noRanges(), nil, []api.Span{}) {
		m := api.Manifest{Overrides: []api.Dep{{Name: "q", Range: r}, {Name: "q", Range: ranged("*")}}}
		falls(t, c, m, "q 1.0.0", "p 1.0.0")
		m.Overrides[0].Name = "qq"
		stands(t, c, m, "q 1.0.0", "p 1.0.0", "q 1.0.0")
	}
}

// P9.4: a context rises by Name, byte by byte, however Peers and the environment stand.
func TestContextByName(t *testing.T) {
	c := filled(packages("p 1.0.0: a0, b", "a 1.0.0", "a-b 1.0.0: a", "a0 1.0.0: aa", "aa 1.0.0", "b 1.0.0: a-b")...)
	const want = "a 1.0.0, a-b 1.0.0, a0 1.0.0, aa 1.0.0, b 1.0.0"
	l := pins(want)
	s := source(1)
	for range 50 {
		s.shuffle(l)
		if got, ok := wants.Context(c, none, l, pin("p 1.0.0")); !ok || !slices.Equal(got, pins(want)) {
			t.Fatalf("Context in %v: %v, %v", l, got, ok)
		}
	}
}

// P9.4: Peers of Peers, in a chain; each end of it has its own context.
func TestChain(t *testing.T) {
	var texts, env []string
	for i := range 128 {
		s := fmt.Sprintf("n%03d 1.0.%d", i, i)
		env = append(env, s)
		if i < 127 {
			s += fmt.Sprintf(": n%03d", i+1)
		}
		texts = append(texts, s)
	}
	c := filled(packages(texts...)...)
	for i := range 128 {
		stands(t, c, none, strings.Join(env, ", "), env[i], strings.Join(env[i+1:], ", "))
		if i < 127 {
			falls(t, c, none, strings.Join(env[:127], ", "), env[i])
		}
	}
	slices.Reverse(env)
	stands(t, c, none, strings.Join(env, ", "), "n125 1.0.125", "n126 1.0.126, n127 1.0.127")
}

// P9.4: in a ring each has all in its context, itself too.
func TestRing(t *testing.T) {
	c := filled(packages("a 1.0.0: b", "b 1.0.0: c", "c 1.0.0: a", "d 1.0.0: a", "e 1.0.0: f", "f 1.0.0: e")...)
	const env = "f 1.0.0, e 1.0.0, d 1.0.0, c 1.0.0, b 1.0.0, a 1.0.0"
	for _, p := range []string{"a 1.0.0", "b 1.0.0", "c 1.0.0", "d 1.0.0"} {
		stands(t, c, none, env, p, "a 1.0.0, b 1.0.0, c 1.0.0")
		falls(t, c, none, "a 1.0.0, b 1.0.0", p)
	}
	stands(t, c, none, env, "e 1.0.0", "e 1.0.0, f 1.0.0")
	stands(t, c, none, env, "f 1.0.0", "e 1.0.0, f 1.0.0")
	falls(t, c, none, "f 1.0.0", "e 1.0.0")
}

// P9.4: a package that is a Peer of itself stands in its context, in the version that the environment tells.
func TestPeerOfItself(t *testing.T) {
	c := filled(packages("a 1.0.0: a", "a 2.0.0: a, b", "a 3.0.0", "a 4.0.0: a <4.0.0", "b 1.0.0", "q 1.0.0: a", "q 2.0.0: r", "r 1.0.0: q 3.0.0", "q 3.0.0: s", "s 1.0.0")...)
	stands(t, c, none, "a 1.0.0", "a 1.0.0", "a 1.0.0")
	falls(t, c, none, "", "a 1.0.0")
	falls(t, c, none, "b 1.0.0", "a 1.0.0")
	stands(t, c, none, "a 3.0.0", "a 1.0.0", "a 3.0.0")
	falls(t, c, none, "a 2.0.0", "a 1.0.0")
	stands(t, c, none, "b 1.0.0, a 2.0.0", "a 1.0.0", "a 2.0.0, b 1.0.0")
	falls(t, c, none, "a 9.0.0", "a 1.0.0")
	falls(t, c, none, "a 4.0.0", "a 4.0.0")
	stands(t, c, over("a"), "a 4.0.0", "a 4.0.0", "a 4.0.0")
	stands(t, c, none, "a 3.0.0", "a 4.0.0", "a 3.0.0")
	stands(t, c, none, "a 1.0.0", "q 1.0.0", "a 1.0.0")
	// A Peer of one of its context, in another version, which has a Peer of its own.
	stands(t, c, none, "r 1.0.0, s 1.0.0, q 3.0.0", "q 2.0.0", "q 3.0.0, r 1.0.0, s 1.0.0")
	falls(t, c, none, "r 1.0.0, q 3.0.0", "q 2.0.0")
	falls(t, c, none, "r 1.0.0, s 1.0.0, q 2.0.0", "q 2.0.0")
}

// P9.4: a context has just its own names: no Deps and no Optional, and nothing else of the environment.
func TestContextIsLeast(t *testing.T) {
	with := func(s string, needs, likes string) api.Package {
		p := packages(s)[0]
		p.Deps, p.Optional = deps(needs), deps(likes)
		return p
	}
	c := filled(with("p 1.0.0: q", "x", "y"), with("q 1.0.0: r", "p", "z"), with("r 1.0.0", "s", "t"), with("s 1.0.0: t", "x", "y"), with("t 1.0.0", "x", "y"))
	stands(t, c, none, "p 1.0.0, q 1.0.0, r 1.0.0, s 1.0.0, t 1.0.0, x 1.0.0, y 1.0.0", "p 1.0.0", "q 1.0.0, r 1.0.0")
}

// P9.4: two that have a Peer in common have it once in the context, and a wide one has all.
func TestWide(t *testing.T) {
	c := filled(packages("p 1.0.0: q, r", "q 1.0.0: s", "r 1.0.0: s", "s 1.0.0: q, r")...)
	stands(t, c, none, "s 1.0.0, r 1.0.0, q 1.0.0", "p 1.0.0", "q 1.0.0, r 1.0.0, s 1.0.0")
	var all []api.Package
	var env []api.Pin
	for i := range 7 {
		p := api.Package{Name: fmt.Sprintf("m%02d", i)}
		for j := range 16 {
			n := api.Package{Name: fmt.Sprintf("n%d%02d", i, j), Peers: deps("m00", "m06")}
			all, env = append(all, n), append(env, api.Pin{Name: n.Name})
			p.Peers = append(p.Peers, deps(n.Name)...)
		}
		all, env = append(all, p), append(env, api.Pin{Name: p.Name})
	}
	wide := filled(all...)
	want := slices.DeleteFunc(slices.Clone(env), func(p api.Pin) bool {
		return !strings.HasPrefix(p.Name, "n0") && !strings.HasPrefix(p.Name, "n6") && p.Name != "m00" && p.Name != "m06"
	})
	slices.SortFunc(want, func(a, b api.Pin) int { return strings.Compare(a.Name, b.Name) })
	if got, ok := wants.Context(wide, none, env, api.Pin{Name: "m00"}); !ok || !slices.Equal(got, want) {
		t.Errorf("a wide context: %v, %v, not %v", got, ok, want)
	}
}
