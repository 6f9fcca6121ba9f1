package manifest_test

import (
	"slices"
	"strconv"
	"strings"
	"testing"

	"halyard/api"
	"halyard/manifest"
)

// P6.1, P6.2: how long lists may be, each of them, and all together.
func TestListLengths(t *testing.T) {
	mayBe(t, "the zero manifest", api.Manifest{})
	for list := range 4 {
		for _, n := range []int{0, 1, 2, 15, 16} {
			mayBe(t, listWords[list]+" "+strconv.Itoa(n), with(list, deps(names("n", n)...)))
		}
		for _, n := range []int{17, 18, 26} {
			mayNotBe(t, listWords[list]+" "+strconv.Itoa(n), with(list, deps(names("n", n)...)))
		}
	}
	mayBe(t, "four full lists", full())
	for list := range 4 {
		m := full()
		l := listsOf(&m)[list]
		*l = append(*l, deps("zzz")...)
		mayNotBe(t, "one more of "+listWords[list], m)
	}
}

// P6.1, P6.2: names rise, byte by byte, each once in its list.
func TestNamesRise(t *testing.T) {
	rising := [][]string{{"a", "b"}, {"a", "a-", "a-b", "a0", "a9", "aa", "b"}, {"a", "aa", "aaa"}, {"a9", "aa"}, {"a-", "a0"}, {"x10", "x9"}, {"abcdefghijklmno", "abcdefghijklmnop"}}
	falling := [][]string{{"b", "a"}, {"a", "a"}, {"a", "b", "b"}, {"a", "a", "b"}, {"a", "c", "b"}, {"b", "a", "c"}, {"aa", "a"}, {"aa", "a9"}, {"a0", "a-"}, {"x9", "x10"}, {"a", "b", "a"}, {"a", "b", "c", "d", "e", "e"}}
	for list := range 4 {
		for _, l := range rising {
			mayBe(t, listWords[list]+" "+strings.Join(l, " "), with(list, deps(l...)))
		}
		for _, l := range falling {
			mayNotBe(t, listWords[list]+" "+strings.Join(l, " "), with(list, deps(l...)))
		}
	}
	mayBe(t, "lists that fall", api.Manifest{Deps: deps("g", "h"), Dev: deps("e", "f"), Optional: deps("c", "d"), Overrides: deps("a", "b")})
	mayBe(t, "lists that cross", api.Manifest{Deps: deps("a", "d"), Dev: deps("b", "e"), Optional: deps("c", "f"), Overrides: deps("b", "d", "f")})
}

// P6.1, P6.2: no name stands in two of the first three lists, wherever in them.
func TestNamesInTwoLists(t *testing.T) {
	for one := range pins {
		for other := range one {
			for _, names := range [][2][]string{{{"a"}, {"a"}}, {{"a", "b", "c"}, {"c", "d"}}, {{"c", "d"}, {"a", "b", "c"}}, {{"a", "m", "z"}, {"b", "m", "y"}}, {{"a 1.0.0"}, {"a 2.0.0"}}} {
				m := with(one, deps(names[0]...))
				*listsOf(&m)[other] = deps(names[1]...)
				mayNotBe(t, short(text(m)), m)
				m.Overrides = deps("c", "m")
				mayNotBe(t, short(text(m)), m)
			}
		}
	}
	mayNotBe(t, "one name in the first three", api.Manifest{Deps: deps("a"), Dev: deps("a"), Optional: deps("a")})
	mayNotBe(t, "one name in all lists", api.Manifest{Deps: deps("a"), Dev: deps("a"), Optional: deps("a"), Overrides: deps("a")})
}

// P6.1, P6.2: Overrides may have any of the names of the others, and others; each once.
func TestNamesOfOverrides(t *testing.T) {
	for list := range pins {
		for _, names := range [][2][]string{{{"a"}, {"a"}}, {{"a", "b", "c"}, {"c", "d"}}, {{"c", "d"}, {"a", "b", "c"}}, {{"a", "m", "z"}, {"b", "m", "y"}}, {{"a 1.0.0"}, {"a 2.0.0"}}, {{"a", "b"}, {"a", "b"}}} {
			m := with(list, deps(names[0]...))
			m.Overrides = deps(names[1]...)
			mayBe(t, short(text(m)), m)
		}
		m := with(list, deps("a"))
		m.Overrides = deps("a", "a")
		mayNotBe(t, "a name twice in Overrides", m)
		m.Overrides = deps("b", "a")
		mayNotBe(t, "names that fall in Overrides", m)
	}
	mayBe(t, "names of each list", api.Manifest{Deps: deps("a"), Dev: deps("b"), Optional: deps("c"), Overrides: deps("a", "b", "c", "d")})
	mayBe(t, "Overrides alone", api.Manifest{Overrides: deps("a", "b", "c", "d")})
	m := full()
	m.Overrides = deps(names("x", 16)...)
	mayBe(t, "all names of a full list", m)
}

// P6.1, P6.2: names in lists, at every place.
func TestNamesInLists(t *testing.T) {
	for list := range 4 {
		for _, name := range noNames() {
			bad := []api.Dep{{Name: name, Range: ranged("*")}}
			mayNotBe(t, "the only name "+short(name), with(list, bad))
			mayNotBe(t, "the last name "+short(name), with(list, slices.Concat(deps("b"), bad)))
			mayNotBe(t, "the first name "+short(name), with(list, slices.Concat(bad, deps("zz"))))
		}
		for _, name := range []string{"a", "z", "a0", "a-", "a-9z", "left-pad", "abcdefghijklmnop", "project", "needs", "pins"} {
			mayBe(t, "name "+name, with(list, deps(name)))
		}
	}
}

// P6.1, P6.2: ranges in lists, at every place: each that may be but that of none.
func TestRangesInLists(t *testing.T) {
	for list := range 4 {
		for what, r := range noRanges() {
			mayNotBe(t, "only "+what, with(list, []api.Dep{{Name: "b", Range: r}}))
			mayNotBe(t, "last "+what, with(list, slices.Concat(deps("a", "b"), []api.Dep{{Name: "c", Range: r}})))
			mayNotBe(t, "first "+what, with(list, slices.Concat([]api.Dep{{Name: "a", Range: r}}, deps("b"))))
			m := base()
			l := *listsOf(&m)[list]
			l[len(l)-1].Range = r
			mayNotBe(t, "among other lists "+what, m)
		}
		mayBe(t, "a range of all", with(list, deps("b *")))
		mayBe(t, "a range of 64 spans", with(list, []api.Dep{{Name: "b", Range: every(64)}}))
		mayBe(t, "the first version", with(list, deps("b 0.0.0")))
		mayBe(t, "the last version", with(list, deps("b 999.999.999")))
	}
}

// P6.1, P6.2: a text has at most 4096 bytes, whichever lists they are of.
func TestTextLengths(t *testing.T) {
	for list := range 4 {
		for n := 3950; n <= 4250; n++ {
			m := ofLength(list, n)
			if len(text(m)) != n {
				t.Fatalf("a text of %d bytes, not of %d", len(text(m)), n)
			}
			if n <= 4096 {
				mayBe(t, strconv.Itoa(n)+" bytes", m)
			} else {
				mayNotBe(t, strconv.Itoa(n)+" bytes", m)
			}
		}
		var long []api.Dep
		for _, name := range names("n", 16) {
			long = append(long, api.Dep{Name: name, Range: every(64)})
		}
		mayNotBe(t, "the longest list", with(list, long))
	}
}

// P6.1, P6.2: the bytes of all lists count together.
func TestTextLengthsOfAllLists(t *testing.T) {
	for list := range 4 {
		for _, n := range []int{4095, 4096, 4097} {
			var m api.Manifest
			for i, l := range listsOf(&m) {
				if i != list {
					*l = []api.Dep{{Name: "n" + strconv.Itoa(i), Range: every(50)}}
				}
			}
			rest := ofLength(list, n-len(text(m))+len("project\n"))
			*listsOf(&m)[list] = *listsOf(&rest)[list]
			if len(text(m)) != n {
				t.Fatalf("a text of %d bytes, not of %d", len(text(m)), n)
			}
			if n <= 4096 {
				mayBe(t, strconv.Itoa(n)+" bytes", m)
			} else {
				mayNotBe(t, strconv.Itoa(n)+" bytes", m)
			}
		}
	}
}

// others is manifests that differ from base in one thing alone, each in another one; no two are the same.
func others() []api.Manifest {
	var l []api.Manifest
	change := func(f func(m *api.Manifest)) {
		m := clone(base())
		f(&m)
		l = append(l, m)
	}
	change(func(m *api.Manifest) {})
	for i := range 4 {
		at := func(f func(l *[]api.Dep)) { change(func(m *api.Manifest) { f(listsOf(m)[i]) }) }
		at(func(l *[]api.Dep) { *l = nil })
		at(func(l *[]api.Dep) { *l = (*l)[:len(*l)-1] })
		at(func(l *[]api.Dep) { *l = (*l)[1:] })
		at(func(l *[]api.Dep) { *l = append(*l, deps("zz")...) })
		at(func(l *[]api.Dep) { *l = append(*l, api.Dep{}) })
		at(func(l *[]api.Dep) { slices.Reverse(*l) })
		at(func(l *[]api.Dep) { (*l)[0].Name += "x" })
		at(func(l *[]api.Dep) { (*l)[1].Name += "x" })
		for j := range 2 {
			at(func(l *[]api.Dep) { (*l)[j].Range = nil })
			at(func(l *[]api.Dep) { (*l)[j].Range = append((*l)[j].Range, every(1)...) })
			at(func(l *[]api.Dep) { (*l)[j].Range[0].Lo.Major += 5 })
			at(func(l *[]api.Dep) { (*l)[j].Range[0].Lo.Minor += 5 })
			at(func(l *[]api.Dep) { (*l)[j].Range[0].Lo.Patch += 5 })
			at(func(l *[]api.Dep) { (*l)[j].Range[0].Hi.Major += 5 })
			at(func(l *[]api.Dep) { (*l)[j].Range[0].Hi.Minor += 5 })
			at(func(l *[]api.Dep) { (*l)[j].Range[0].Hi.Patch += 5 })
		}
		for j := range i {
			change(func(m *api.Manifest) {
				one, other := listsOf(m)[i], listsOf(m)[j]
				*one, *other = *other, *one
			})
			change(func(m *api.Manifest) {
				one, other := listsOf(m)[i], listsOf(m)[j]
				*one, *other = append(*one, *other...), nil
			})
		}
	}
	change(func(m *api.Manifest) { m.Deps[1].Range = slices.Concat(m.Deps[1].Range[1:], m.Deps[1].Range[:1]) })
	return append(l, api.Manifest{})
}

// allDiffer tells a fault unless Same tells each two of them apart, and each is the same as its copy.
func allDiffer(t *testing.T, l []api.Manifest) {
	t.Helper()
	for i, a := range l {
		for j, b := range l {
			if got := manifest.Same(a, clone(b)); got != (i == j) {
				t.Errorf("Same of %s and %s: %v", short(flat(a)), short(flat(b)), got)
			}
		}
	}
}

// P6.1: Same looks at every list of any two manifests, and at nothing else.
func TestSame(t *testing.T) {
	allDiffer(t, others())
	var alone []api.Manifest
	for list := range 4 {
		alone = append(alone, with(list, deps("a")), with(list, deps("a", "b")), with(list, deps("b")), with(list, deps("a 1.0.0")))
	}
	allDiffer(t, append(alone, api.Manifest{}))
}

// P6.1: Same of manifests that may not be.
func TestSameOfAny(t *testing.T) {
	var l []api.Manifest
	for _, name := range noNames() {
		l = append(l, with(0, []api.Dep{{Name: name}}), with(pins, []api.Dep{{Name: name}, {Name: name}}))
	}
	for _, v := range noVersions() {
		l = append(l, with(1, []api.Dep{{Name: "a", Range: []api.Span{{Lo: v}}}}), with(2, []api.Dep{{Name: "a", Range: []api.Span{{Hi: v}}}}))
	}
	l = append(l, with(0, deps(names("n", 26)...)), with(1, deps("b", "a")), with(2, []api.Dep{{Name: "a", Range: every(500)}}),
		api.Manifest{Deps: deps("a"), Dev: deps("a")}, api.Manifest{Deps: deps("a"), Optional: deps("a")}, ofLength(pins, 4097))
	allDiffer(t, l)
}
