package pack_test

import (
	"slices"
	"strconv"
	"strings"
	"testing"

	"halyard/api"
	"halyard/pack"
)

// P5.1, P5.2: a package's name and version.
func TestNamesAndVersions(t *testing.T) {
	for _, name := range []string{"a", "z", "a0", "a-", "a-9z", "left-pad", "abcdefghijklmnop"} {
		mayBe(t, "name "+name, api.Package{Name: name})
	}
	for _, name := range noNames() {
		mayNotBe(t, "name "+short(name), api.Package{Name: name, Version: version(1, 0, 0)})
	}
	for _, v := range []api.Version{version(0, 0, 0), version(999, 999, 999), version(0, 999, 0), version(1, 2, 30)} {
		mayBe(t, "version", api.Package{Name: "a", Version: v})
	}
	for _, v := range noVersions() {
		p := api.Package{Name: "a", Version: v}
		mayNotBe(t, flat(p), p)
	}
	mayNotBe(t, "the zero package", api.Package{})
}

// P5.1, P5.2: how long lists may be, each of them, and all together.
func TestListLengths(t *testing.T) {
	for list := range 3 {
		for _, n := range []int{0, 1, 2, 15, 16} {
			mayBe(t, listWords[list]+" "+strconv.Itoa(n), with(list, deps(names("n", n)...)))
		}
		for _, n := range []int{17, 18, 26} {
			mayNotBe(t, listWords[list]+" "+strconv.Itoa(n), with(list, deps(names("n", n)...)))
		}
	}
	full := api.Package{Name: "a", Deps: deps(names("x", 16)...), Peers: deps(names("y", 16)...), Optional: deps(names("z", 16)...)}
	mayBe(t, "three full lists", full)
	for list := range 3 {
		p := clone(full)
		l := listsOf(&p)[list]
		*l = append(*l, deps("zzz")...)
		mayNotBe(t, "one more of "+listWords[list], p)
	}
}

// P5.1, P5.2: names rise, byte by byte, each once in its list.
func TestNamesRise(t *testing.T) {
	rising := [][]string{{"a", "b"}, {"a", "a-", "a-b", "a0", "a9", "aa", "b"}, {"a", "aa", "aaa"}, {"a9", "aa"}, {"a-", "a0"}, {"x10", "x9"}, {"abcdefghijklmno", "abcdefghijklmnop"}}
	falling := [][]string{{"b", "a"}, {"a", "a"}, {"a", "b", "b"}, {"a", "a", "b"}, {"a", "c", "b"}, {"b", "a", "c"}, {"aa", "a"}, {"aa", "a9"}, {"a0", "a-"}, {"x9", "x10"}, {"a", "b", "a"}, {"a", "b", "c", "d", "e", "e"}}
	for list := range 3 {
		for _, l := range rising {
			mayBe(t, listWords[list]+" "+strings.Join(l, " "), with(list, deps(l...)))
		}
		for _, l := range falling {
			mayNotBe(t, listWords[list]+" "+strings.Join(l, " "), with(list, deps(l...)))
		}
	}
}

// P5.1, P5.2: no name stands in two lists, wherever in them; names of two lists need not rise.
func TestNamesInTwoLists(t *testing.T) {
	for one := range 3 {
		for other := range one {
			for _, names := range [][2][]string{{{"a"}, {"a"}}, {{"a", "b", "c"}, {"c", "d"}}, {{"c", "d"}, {"a", "b", "c"}}, {{"a", "m", "z"}, {"b", "m", "y"}}, {{"a 1.0.0"}, {"a 2.0.0"}}} {
				p := with(one, deps(names[0]...))
				*listsOf(&p)[other] = deps(names[1]...)
				mayNotBe(t, short(text(p)), p)
			}
		}
	}
	mayNotBe(t, "one name in all lists", api.Package{Name: "x", Deps: deps("a"), Peers: deps("a"), Optional: deps("a")})
	mayBe(t, "lists that fall", api.Package{Name: "x", Deps: deps("e", "f"), Peers: deps("c", "d"), Optional: deps("a", "b")})
	mayBe(t, "lists that cross", api.Package{Name: "x", Deps: deps("a", "d"), Peers: deps("b", "e"), Optional: deps("c", "f")})
}

// P5.1, P5.2: a package may depend on its own name; once, as on any other.
func TestOwnName(t *testing.T) {
	for list := range 3 {
		mayBe(t, "its own name", with(list, deps("own")))
		mayBe(t, "its own name and version", with(list, deps("own 1.2.3")))
		mayBe(t, "its own name among others", with(list, deps("a", "own", "z")))
		mayNotBe(t, "its own name twice", with(list, deps("own", "own")))
	}
	mayNotBe(t, "its own name in two lists", api.Package{Name: "own", Deps: deps("own"), Optional: deps("own")})
}

// P5.1, P5.2: names in lists, at every place.
func TestNamesInLists(t *testing.T) {
	for list := range 3 {
		for _, name := range noNames() {
			p := with(list, []api.Dep{{Name: name, Range: ranged("*")}})
			mayNotBe(t, "the only name "+short(name), p)
			p = with(list, slices.Concat(deps("b"), []api.Dep{{Name: name, Range: ranged("*")}}))
			mayNotBe(t, "the last name "+short(name), p)
			p = with(list, slices.Concat([]api.Dep{{Name: name, Range: ranged("*")}}, deps("zz")))
			mayNotBe(t, "the first name "+short(name), p)
		}
		mayBe(t, "a name of 16 bytes", with(list, deps("abcdefghijklmnop")))
	}
}

// P5.1, P5.2: ranges in lists, at every place: each that may be but that of none.
func TestRangesInLists(t *testing.T) {
	for list := range 3 {
		for what, r := range noRanges() {
			mayNotBe(t, "only "+what, with(list, []api.Dep{{Name: "b", Range: r}}))
			mayNotBe(t, "last "+what, with(list, slices.Concat(deps("a", "b"), []api.Dep{{Name: "c", Range: r}})))
			mayNotBe(t, "first "+what, with(list, slices.Concat([]api.Dep{{Name: "a", Range: r}}, deps("b"))))
			p := base()
			l := *listsOf(&p)[list]
			l[len(l)-1].Range = r
			mayNotBe(t, "among other lists "+what, p)
		}
		mayBe(t, "a range of all", with(list, deps("b *")))
		mayBe(t, "a range of 64 spans", with(list, []api.Dep{{Name: "b", Range: every(64)}}))
		mayBe(t, "the first version", with(list, deps("b 0.0.0")))
		mayBe(t, "the last version", with(list, deps("b 999.999.999")))
	}
}

// P5.1, P5.2: a text has at most 4096 bytes.
func TestTextLengths(t *testing.T) {
	for n := 3900; n <= 4300; n++ {
		p := ofLength(n)
		if len(text(p)) != n {
			t.Fatalf("a text of %d bytes, not of %d", len(text(p)), n)
		}
		if n <= 4096 {
			mayBe(t, strconv.Itoa(n)+" bytes", p)
		} else {
			mayNotBe(t, strconv.Itoa(n)+" bytes", p)
		}
	}
	var long []api.Dep
	for _, name := range names("n", 16) {
		long = append(long, api.Dep{Name: name, Range: every(64)})
	}
	mayNotBe(t, "the longest list", with(1, long))
}

// others is packages that differ from base in one thing alone, each in another one; no two are the same.
func others() []api.Package {
	var l []api.Package
	change := func(f func(p *api.Package)) {
		p := clone(base())
		f(&p)
		l = append(l, p)
	}
	change(func(p *api.Package) {})
	change(func(p *api.Package) { p.Name = "owm" })
	change(func(p *api.Package) { p.Name = "" })
	change(func(p *api.Package) { p.Name = "own2" })
	change(func(p *api.Package) { p.Version.Major++ })
	change(func(p *api.Package) { p.Version.Minor++ })
	change(func(p *api.Package) { p.Version.Patch++ })
	change(func(p *api.Package) { p.Version.Patch = -1 })
	for i := range 3 {
		at := func(f func(l *[]api.Dep)) { change(func(p *api.Package) { f(listsOf(p)[i]) }) }
		at(func(l *[]api.Dep) { *l = nil })
		at(func(l *[]api.Dep) { *l = (*l)[:len(*l)-1] })
		at(func(l *[]api.Dep) { *l = (*l)[1:] })
		at(func(l *[]api.Dep) { *l = append(*l, deps("zz")...) })
		at(func(l *[]api.Dep) { *l = append(*l, api.Dep{}) })
		at(func(l *[]api.Dep) { slices.Reverse(*l) })
		at(func(l *[]api.Dep) { (*l)[0].Name += "x" })
		at(func(l *[]api.Dep) { (*l)[1].Name += "x" })
		for j := range 2 {
			at(func(l *[]api.Dep) { (*l)[j].Range = nil })
			at(func(l *[]api.Dep) { (*l)[j].Range = append((*l)[j].Range, every(1)...) })
			at(func(l *[]api.Dep) { (*l)[j].Range[0].Lo.Major += 5 })
			at(func(l *[]api.Dep) { (*l)[j].Range[0].Lo.Minor += 5 })
			at(func(l *[]api.Dep) { (*l)[j].Range[0].Lo.Patch += 5 })
			at(func(l *[]api.Dep) { (*l)[j].Range[0].Hi.Major += 5 })
			at(func(l *[]api.Dep) { (*l)[j].Range[0].Hi.Minor += 5 })
			at(func(l *[]api.Dep) { (*l)[j].Range[0].Hi.Patch += 5 })
		}
	}
	change(func(p *api.Package) { p.Deps[1].Range = slices.Concat(p.Deps[1].Range[1:], p.Deps[1].Range[:1]) })
	change(func(p *api.Package) { p.Deps, p.Peers = p.Peers, p.Deps })
	change(func(p *api.Package) { p.Peers, p.Optional = p.Optional, p.Peers })
	change(func(p *api.Package) { p.Deps, p.Optional = p.Optional, p.Deps })
	change(func(p *api.Package) { p.Peers = append(p.Peers, p.Optional...); p.Optional = nil })
	return append(l, api.Package{})
}

// P5.1: Same looks at every field of any two packages, and at nothing else.
func TestSame(t *testing.T) {
	l := others()
	for i, a := range l {
		for j, b := range l {
			if got := pack.Same(a, clone(b)); got != (i == j) {
				t.Errorf("Same of %s and %s: %v", flat(a), flat(b), got)
			}
		}
	}
}

// P5.1: Same of packages that may not be.
func TestSameOfAny(t *testing.T) {
	var l []api.Package
	for _, name := range noNames() {
		l = append(l, api.Package{Name: name}, with(0, []api.Dep{{Name: name}}), with(2, []api.Dep{{Name: name}, {Name: name}}))
	}
	for _, v := range noVersions() {
		l = append(l, api.Package{Version: v}, with(1, []api.Dep{{Name: "a", Range: []api.Span{{Lo: v}}}}), with(1, []api.Dep{{Name: "a", Range: []api.Span{{Hi: v}}}}))
	}
	l = append(l, with(0, deps(names("n", 26)...)), with(1, deps("b", "a")), with(2, []api.Dep{{Name: "a", Range: every(500)}}))
	for i, a := range l {
		for j, b := range l {
			if got := pack.Same(a, clone(b)); got != (i == j) {
				t.Errorf("Same of %s and %s: %v", short(flat(a)), short(flat(b)), got)
			}
		}
	}
}
