package deps_test

import (
	"cmp"
	"math"
	"slices"
	"strconv"
	"strings"
	"testing"

	"halyard/api"
	"halyard/deps"
	"halyard/span"
)

// list is a list: each text is a name, and perhaps a range behind a blank; else it is all versions.
func list(texts ...string) []api.Dep {
	var l []api.Dep
	for _, s := range texts {
		name, text, some := strings.Cut(s, " ")
		if !some {
			text = "*"
		}
		r, e := span.Parse(text)
		if e != api.OK {
			panic(s)
		}
		l = append(l, api.Dep{Name: name, Range: r})
	}
	return l
}

// names is so many names that rise.
func names(count int) []string {
	var l []string
	for i := range count {
		l = append(l, "n"+string(rune('a'+i)))
	}
	return l
}

// A list may be just if it has at most 16, whose names may be and rise, with ranges that may be, but not that of none.
func TestMay(t *testing.T) {
	one := api.Version{Major: 1}
	two := api.Version{Major: 2}
	for _, l := range [][]api.Dep{nil, {}, list("a"), list("a", "b 1.0.0"), list("a", "a-", "a0", "aa"), list("x10", "x9"), list(names(16)...), list("abcdefghijklmnop")} {
		if !deps.May(l) {
			t.Errorf("May(%v): false", l)
		}
	}
	for _, l := range [][]api.Dep{list(names(17)...), list("b", "a"), list("a", "a"), list("a", "c", "b"), list("A"), list(""), list("a", "B"), list("abcdefghijklmnopq"),
		{{Name: "a"}}, {{Name: "a", Range: []api.Span{}}}, {{Name: "a", Range: []api.Span{{Lo: two, Hi: one}}}}, slices.Concat(list("a"), []api.Dep{{Name: "b"}}), list("a <0.0.0")} {
		if deps.May(l) {
			t.Errorf("May(%v): true", l)
		}
	}
}

// A name stands twice, be it in one list or in two.
func TestOnce(t *testing.T) {
	for _, x := range []struct {
		lists [][]api.Dep
		want  bool
	}{
		{nil, true}, {[][]api.Dep{nil, nil}, true}, {[][]api.Dep{list("a", "b")}, true}, {[][]api.Dep{list("a", "c"), list("b"), list("d")}, true},
		{[][]api.Dep{list("a", "a")}, false}, {[][]api.Dep{list("a"), list("a")}, false}, {[][]api.Dep{list("a", "z"), nil, list("b", "z")}, false}, {[][]api.Dep{list("a 1.0.0"), list("b"), list("a 2.0.0")}, false},
	} {
		if got := deps.Once(x.lists...); got != x.want {
			t.Errorf("Once(%v): %v", x.lists, got)
		}
	}
}

// Lists are the same if they have the same names with the same ranges.
func TestSame(t *testing.T) {
	l := [][]api.Dep{nil, list("a"), list("a", "b"), list("b"), list("b", "a"), list("a 1.0.0"), list("a 1.0.0 || 2.0.0"), {{Name: "a"}}, list("a", "a"), {{}}}
	for i, a := range l {
		for j, b := range l {
			if got := deps.Same(a, b); got != (i == j) {
				t.Errorf("Same(%v, %v): %v", a, b, got)
			}
		}
	}
	if !deps.Same(nil, []api.Dep{}) || !deps.Same([]api.Dep{{Name: "a"}}, []api.Dep{{Name: "a", Range: []api.Span{}}}) {
		t.Error("nil and empty are not the same")
	}
}

// Lists rise by their names, byte by byte, then by their ranges, from the left on; just those are level that are the same.
func TestCompare(t *testing.T) {
	least, most := api.Version{Major: math.MinInt}, api.Version{Patch: math.MaxInt}
	rising := [][]api.Dep{nil, {{}}, {{Name: "A"}}, {{Name: "a"}}, {{Name: "a", Range: []api.Span{{Lo: least, Hi: least}}}}, {{Name: "a", Range: []api.Span{{Lo: least, Hi: most}}}},
		list("a 1.0.0"), list("a 1.0.0", "a"), list("a 1.0.0", "b"), list("a 1.0.0 || 2.0.0"), list("a >=1.0.0"), list("a 1.0.1"), list("a 1.1.0"), list("a 2.0.0"), list("a-"), list("a0"), list("aa"), list("b"), list("b", "a"), list("b", "b")}
	for i, a := range rising {
		for j, b := range rising {
			if got := deps.Compare(a, deps.Copy(b)); got != cmp.Compare(i, j) || (got == 0) != deps.Same(a, b) {
				t.Errorf("Compare(%v, %v): %d", a, b, got)
			}
		}
	}
	if deps.Compare(nil, []api.Dep{}) != 0 || deps.Compare([]api.Dep{{Name: "a"}}, []api.Dep{{Name: "a", Range: []api.Span{}}}) != 0 {
		t.Error("nil and empty are not level")
	}
}

// A copy is the same list, whoever writes into the other one, at both depths.
func TestCopy(t *testing.T) {
	for _, texts := range [][]string{nil, {"a"}, {"a 1.0.0 || 2.0.0", "b"}, {"b", "a", "a"}, names(17)} {
		given, want := list(texts...), list(texts...)
		got := deps.Copy(given)
		for i := range given {
			clear(given[i].Range)
			given[i].Name = "spoilt"
		}
		if !deps.Same(got, want) {
			t.Errorf("Copy(%v): %v", want, got)
		}
		given = deps.Copy(got)
		for i := range got {
			clear(got[i].Range)
		}
		clear(got)
		if !deps.Same(given, want) {
			t.Errorf("Copy(%v) behind writing into what was copied: %v", want, given)
		}
	}
	if got := deps.Copy([]api.Dep{{Name: "A"}, {}}); !deps.Same(got, []api.Dep{{Name: "A"}, {}}) {
		t.Errorf("Copy of what may not be: %v", got)
	}
}

// Each line has its word, a name and a range's text, and stands behind what is written.
func TestWrite(t *testing.T) {
	var text strings.Builder
	text.WriteString("head\n")
	deps.Write(&text, "one", list("a", "b ^1.0.0"))
	deps.Write(&text, "two", nil)
	deps.Write(&text, "three", list("c 1.0.0||2.0.0"))
	if want := "head\none a *\none b >=1.0.0 <=1.999.999\nthree c 1.0.0 || 2.0.0\n"; text.String() != want {
		t.Errorf("%q, not %q", text.String(), want)
	}
}

// split is the words of lines that stand behind one another with `; ` between.
func split(text string) [][]string {
	var l [][]string
	for s := range strings.SplitSeq(text, "; ") {
		l = append(l, strings.Split(s, " "))
	}
	return l
}

// Lines are read into the list of their word.
func TestRead(t *testing.T) {
	got, e := deps.Read(split("one a *; one b ^1.0.0; three a 1.0.0 || 2.0.0"), []string{"one", "two", "three"})
	want := [][]api.Dep{list("a", "b ^1.0.0"), nil, list("a 1.0.0 || 2.0.0")}
	if e != api.OK || !slices.EqualFunc(got, want, deps.Same) {
		t.Errorf("%v, error %d", got, e)
	}
	if got, e := deps.Read(nil, []string{"one", "two"}); e != api.OK || len(got) != 2 || len(got[0])+len(got[1]) != 0 {
		t.Errorf("of no line: %v, error %d", got, e)
	}
	many := strings.Join(names(17), " *; one ")
	if got, e := deps.Read(split("one "+many+" *"), []string{"one"}); e != api.OK || len(got) != 1 || len(got[0]) != 17 {
		t.Errorf("of 17 lines: %v, error %d", got, e)
	}
}

// The first line that is wrong decides, and its words from the left.
func TestReadRefuses(t *testing.T) {
	tooMany := "1.0.0"
	for i := range 64 {
		tooMany += "||2.0." + strconv.Itoa(2*i)
	}
	for text, want := range map[string]api.Errno{
		"": api.ErrLine, "one": api.ErrLine, "one a": api.ErrLine, "three a *": api.ErrLine, "two a *; one b *": api.ErrLine, "three A x": api.ErrLine, "one A": api.ErrLine,
		"one A *": api.ErrName, "one A x": api.ErrName, "one b *; one b *": api.ErrName, "one b *; one a x": api.ErrName, "two b *; two a *": api.ErrName,
		"one a x": api.ErrRange, "one a <0.0.0": api.ErrRange, "one a 1.0.0 ||": api.ErrRange, "one a " + tooMany: api.ErrRange, "one a x; one A *": api.ErrRange, "one a x; three a *": api.ErrRange,
	} {
		if got, e := deps.Read(split(text), []string{"one", "two"}); e != want || got != nil {
			t.Errorf("Read(%q): %v, error %d, not error %d", text, got, e, want)
		}
	}
	if got, e := deps.Read([][]string{nil}, []string{"one"}); e != api.ErrLine || got != nil {
		t.Errorf("of a line without words: %v, error %d", got, e)
	}
}

// A copy of a package is the same package, whoever writes into the other one, at every depth.
func TestCopyPackage(t *testing.T) {
	made := func() api.Package {
		return api.Package{Name: "a", Version: api.Version{Major: 1, Minor: 2, Patch: 3}, Deps: list("b", "c 1.0.0"), Peers: list("d 1.0.0 || 2.0.0"), Optional: list("e")}
	}
	same := func(a, b api.Package) bool {
		return a.Name == b.Name && a.Version == b.Version && deps.Same(a.Deps, b.Deps) && deps.Same(a.Peers, b.Peers) && deps.Same(a.Optional, b.Optional)
	}
	given := made()
	got := deps.CopyPackage(given)
	for _, l := range [][]api.Dep{given.Deps, given.Peers, given.Optional} {
		for i := range l {
			clear(l[i].Range)
			l[i].Name = "spoilt"
		}
	}
	if !same(got, made()) || same(given, made()) {
		t.Errorf("CopyPackage: %v", got)
	}
	if got := deps.CopyPackage(api.Package{}); !same(got, api.Package{}) {
		t.Errorf("CopyPackage of the zero one: %v", got)
	}
	if got := deps.CopyPackage(api.Package{Name: "A", Version: api.Version{Major: -1}, Deps: []api.Dep{{}}}); !same(got, api.Package{Name: "A", Version: api.Version{Major: -1}, Deps: []api.Dep{{}}}) {
		t.Errorf("CopyPackage of what may not be: %v", got)
	}
}
