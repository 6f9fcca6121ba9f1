package catalog_test

import (
	"slices"
	"testing"

	"halyard/api"
	"halyard/catalog"
	"halyard/span"
)

// P8.2: a package is told by its name and version, both; else nothing is told.
func TestGet(t *testing.T) {
	l := []api.Package{rich("a 1.2.3"), plain("a 2.0.0")[0], rich("b 1.0.0"), plain("c 0.0.0")[0]}
	c := filled(l...)
	for _, want := range l {
		if p, ok := c.Get(want.Name, want.Version); !ok || !same(p, want) {
			t.Errorf("Get(%q, %v): %s, %v", want.Name, want.Version, flat(p), ok)
		}
	}
	none := func(name string, v api.Version) {
		t.Helper()
		for _, c := range []*catalog.Catalog{catalog.New(), c, filled(sized(128)...)} {
			if p, ok := c.Get(name, v); ok || !same(p, api.Package{}) {
				t.Errorf("Get(%q, %v): %s, %v", short(name), v, flat(p), ok)
			}
		}
	}
	for _, s := range []string{"a 3.2.1", "a 1.2.4", "a 1.2.2", "b 1.2.3", "b 2.0.0", "c 0.2.0", "d 9.2.3", "aa 1.2.3", "a- 2.0.0", "z 0.0.0"} {
		p := pins(s)[0]
		none(p.Name, p.Version)
	}
	for _, name := range noNames() {
		none(name, version(0, 0, 0))
		none(name, version(1, 2, 3))
	}
	for _, v := range noVersions() {
		none("a", v)
		none("c", v)
	}
	// What would be the same version, were its parts carried over.
	none("a", version(1, 1, 1003))
	none("a", version(0, 1002, 3))
	none("a", version(2, 0, -1000))
}

// P8.2: versions of one name alone, the greatest first by Major, then Minor, then Patch.
func TestVersions(t *testing.T) {
	want := "999.999.999 100.0.0 10.0.0 9.999.999 2.10.0 2.9.999 2.9.10 2.9.9 2.9.0 1.0.0 0.999.0 0.10.0 0.2.0 0.0.10 0.0.9 0.0.0"
	l := versions(want)
	for range 2 {
		c := filled(plain("aa 5.0.0", "b 1.0.0", "a- 3.0.0", "a0 4.0.0")...)
		for _, v := range l {
			c.Put(api.Package{Name: "a", Version: v})
		}
		if got := c.Versions("a"); !slices.Equal(got, versions(want)) {
			t.Errorf("Versions(a): %v", got)
		}
		if got := c.Versions("aa"); !slices.Equal(got, versions("5.0.0")) {
			t.Errorf("Versions(aa): %v", got)
		}
		for _, name := range append(noNames(), "c", "ab", "a-b", "z") {
			if got := c.Versions(name); len(got) != 0 {
				t.Errorf("Versions(%q): %v", short(name), got)
			}
		}
		slices.Reverse(l)
	}
	if got := catalog.New().Versions("a"); len(got) != 0 {
		t.Errorf("Versions of no package: %v", got)
	}
}

// P8.2: all packages by name, byte by byte, and of one name the greatest version first.
func TestAll(t *testing.T) {
	want := []api.Package{}
	for _, s := range []string{"a 10.0.0", "a 9.0.0", "a 1.10.0", "a 1.9.0", "a 1.0.10", "a 1.0.9", "a 0.0.0", "a- 1.0.0", "a-b 3.0.0", "a-b 2.0.0", "a0 999.0.0", "a9 0.0.0", "aa 1.0.0", "ab 2.0.0", "b 1.0.0", "x10 1.0.0", "x9 2.0.0", "z 0.0.1"} {
		p := rich(s)
		if len(want)%3 == 0 {
			p = plain(s)[0]
		}
		want = append(want, p)
	}
	s := source(1)
	for range 50 {
		l := slices.Clone(want)
		for i := range l {
			j := i + s.below(len(l)-i)
			l[i], l[j] = l[j], l[i]
		}
		if got := filled(l...).All(); !slices.EqualFunc(got, want, same) {
			t.Fatalf("All: %v", got)
		}
	}
	for _, count := range []int{0, 1, 2, 127, 128} {
		m := model(sized(count))
		if got := filled(m...).All(); !slices.EqualFunc(got, m.all(), same) || len(got) != count {
			t.Errorf("All of %d: %d packages", count, len(got))
		}
	}
}

// The chapter's table.
func TestExamples(t *testing.T) {
	l := plain("a 1.0.0", "a 2.0.0", "a 1.5.0", "b 1.0.0")
	c := filled(l...)
	if a, b := c.Put(l[0]), c.Put(api.Package{}); a != api.ErrThere || b != api.ErrPack {
		t.Errorf("Put: errors %d, %d", a, b)
	}
	if p, ok := c.Get("a", version(1, 5, 0)); !ok || !same(p, l[2]) {
		t.Errorf("Get(a, 1.5.0): %s, %v", flat(p), ok)
	}
	if p, ok := c.Get("a", version(3, 0, 0)); ok || !same(p, api.Package{}) {
		t.Errorf("Get(a, 3.0.0): %s, %v", flat(p), ok)
	}
	if a, b := c.Versions("a"), c.Versions("c"); !slices.Equal(a, versions("2.0.0 1.5.0 1.0.0")) || len(b) != 0 {
		t.Errorf("Versions: %v; %v", a, b)
	}
	if got := c.All(); !slices.EqualFunc(got, plain("a 2.0.0", "a 1.5.0", "a 1.0.0", "b 1.0.0"), same) {
		t.Errorf("All: %v", got)
	}
	tries(t, c, "a", span.All(), nil, "2.0.0 1.5.0 1.0.0")
	tries(t, c, "a", ranged("<2.0.0"), pins("a 1.0.0"), "1.0.0 1.5.0")
	tries(t, c, "a", ranged("*"), pins("b 1.0.0", "a 1.5.0", "a 9.0.0"), "1.5.0 2.0.0 1.0.0")
	full := filled(sized(128)...)
	if e := full.Put(plain("e 1.0.0")[0]); e != api.ErrFull {
		t.Errorf("Put of the 129th: error %d", e)
	}
}
