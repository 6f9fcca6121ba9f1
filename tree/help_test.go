package tree_test

import (
	"fmt"
	"maps"
	"math"
	"regexp"
	"slices"
	"strings"
	"testing"

	"halyard/api"
	"halyard/pack"
	"halyard/span"
	"halyard/tree"
)

func version(major, minor, patch int) api.Version {
	return api.Version{Major: major, Minor: minor, Patch: patch}
}

// deps is the Deps of those names, each with all versions.
func deps(names ...string) []api.Dep {
	var l []api.Dep
	for _, n := range names {
		l = append(l, api.Dep{Name: n, Range: span.All()})
	}
	return l
}

// names is the path of a text, with a blank between each two names; the empty text is the root's.
func names(text string) []string { return strings.Fields(text) }

// numbered is so many names that rise.
func numbered(count int) []string {
	var l []string
	for i := range count {
		l = append(l, fmt.Sprintf("n%04d", i))
	}
	return l
}

// dir is a directory with a package of its last name.
func dir(node int, path ...string) api.Dir {
	return api.Dir{Path: path, Pack: api.Package{Name: path[len(path)-1], Version: version(1, 0, 0)}, Node: node}
}

// grown is a tree of the root and the directories of those paths, each of which is the node of its place.
func grown(paths ...string) api.Tree {
	t := api.Tree{Dirs: []api.Dir{{}}}
	for i, s := range paths {
		t.Dirs = append(t.Dirs, dir(i+1, names(s)...))
	}
	return t
}

// chain is a tree in which each of those names stands in the modules of the one ahead of it.
func chain(path ...string) api.Tree {
	t := api.Tree{Dirs: []api.Dir{{}}}
	for i := range path {
		t.Dirs = append(t.Dirs, dir(i+1, slices.Clone(path[:i+1])...))
	}
	return t
}

// laid is a tree of directories with those paths, the root's too, and nothing else.
func laid(paths ...[]string) api.Tree {
	var t api.Tree
	for _, p := range paths {
		t.Dirs = append(t.Dirs, api.Dir{Path: p})
	}
	return t
}

// base is a tree of some directories, in an order of their own, with all that packages have.
func base() api.Tree {
	t := grown("b", "a", "b c", "a-b", "b a", "b c d", "a b", "a a")
	t.Dirs[3].Pack = api.Package{Name: "c", Version: version(1, 2, 3), Deps: deps("d", "e"), Peers: deps("f", "g"), Optional: deps("h", "i")}
	return t
}

// listsOf is the lists of a package.
func listsOf(p *api.Package) []*[]api.Dep { return []*[]api.Dep{&p.Deps, &p.Peers, &p.Optional} }

// clone is a tree in memory of its own, at every depth.
func clone(t api.Tree) api.Tree {
	t.Dirs = slices.Clone(t.Dirs)
	for i := range t.Dirs {
		d := &t.Dirs[i]
		d.Path = slices.Clone(d.Path)
		for _, l := range listsOf(&d.Pack) {
			*l = slices.Clone(*l)
			for j, dep := range *l {
				(*l)[j].Range = slices.Clone(dep.Range)
			}
		}
	}
	return t
}

// changed is base, or what is like it, with one thing changed.
func changed(t api.Tree, change func(t *api.Tree)) api.Tree {
	t = clone(t)
	change(&t)
	return t
}

// flatPath is a path, be it such as may be or not, as a text; nil and empty lists are one.
func flatPath(path []string) string { return fmt.Sprintf("%q", path) }

// flatPack is a package, be it such as may be or not, as a text.
func flatPack(p api.Package) string {
	s := fmt.Sprintf("%q %v", p.Name, p.Version)
	for i, l := range listsOf(&p) {
		for _, d := range *l {
			s += fmt.Sprintf(" %d %q %v", i, d.Name, d.Range)
		}
	}
	return s
}

// flat is a tree, be it such as may be or not, as a text.
func flat(t api.Tree) string {
	var l []string
	for _, d := range t.Dirs {
		l = append(l, flatPath(d.Path)+" "+flatPack(d.Pack)+" "+fmt.Sprint(d.Node))
	}
	return strings.Join(l, "; ")
}

// short cuts a text that is too long to tell.
func short(s string) string {
	if len(s) > 300 {
		return s[:300] + " and so on"
	}
	return s
}

// answers tells a fault unless Check answers just that.
func answers(t *testing.T, what string, x api.Tree, want api.Errno) {
	t.Helper()
	if e := tree.Check(x); e != want {
		t.Errorf("Check of %s (%s): error %d, not %d", what, short(flat(x)), e, want)
	}
}

func mayBe(t *testing.T, what string, x api.Tree) {
	t.Helper()
	answers(t, what, x, api.OK)
}

func mayNotBe(t *testing.T, what string, x api.Tree) {
	t.Helper()
	answers(t, what, x, api.ErrTree)
}

// written tells a fault unless a path has that text.
func written(t *testing.T, path []string, want string) {
	t.Helper()
	if got := tree.Text(path); got != want {
		t.Errorf("Text(%s): %s, not %s", short(flatPath(path)), short(got), short(want))
	}
}

// reads tells a fault unless a text is that of a path.
func reads(t *testing.T, text string, want ...string) {
	t.Helper()
	if got, ok := tree.Parse(text); !ok || !slices.Equal(got, want) {
		t.Errorf("Parse(%q): %s, %v, not %s", short(text), short(flatPath(got)), ok, short(flatPath(want)))
	}
}

// refuses tells a fault unless a text is that of no path, and none is told.
func refuses(t *testing.T, text string) {
	t.Helper()
	if got, ok := tree.Parse(text); ok || len(got) != 0 {
		t.Errorf("Parse(%q): %s, %v, not false", short(text), short(flatPath(got)), ok)
	}
}

func finds(t *testing.T, x api.Tree, path []string, want int) {
	t.Helper()
	if got := tree.Find(x, path); got != want {
		t.Errorf("Find of %s in %s: %d, not %d", short(flatPath(path)), short(flat(x)), got, want)
	}
}

func hasParent(t *testing.T, x api.Tree, at, want int) {
	t.Helper()
	if got := tree.Parent(x, at); got != want {
		t.Errorf("Parent of %d in %s: %d, not %d", at, short(flat(x)), got, want)
	}
}

func hasInside(t *testing.T, x api.Tree, at int, want ...int) {
	t.Helper()
	if got := tree.Inside(x, at); !slices.Equal(got, want) {
		t.Errorf("Inside of %d in %s: %v, not %v", at, short(flat(x)), got, want)
	}
}

// same tells a fault unless Same answers just that, whichever of the two is asked first.
func same(t *testing.T, what string, a, b api.Tree, want bool) {
	t.Helper()
	for _, pair := range [][2]api.Tree{{a, b}, {b, a}} {
		if got := tree.Same(pair[0], pair[1]); got != want {
			t.Errorf("Same with %s of %s and %s: %v", what, short(flat(pair[0])), short(flat(pair[1])), got)
		}
	}
}

// The model: trees by the tests' own means, as near to the chapter's words as may be.

var (
	nameForm = regexp.MustCompile(`\A[a-z][a-z0-9-]{0,15}\z`)
	pathForm = regexp.MustCompile(`\A(/modules/[a-z][a-z0-9-]{0,15})+\z`)
	oneName  = regexp.MustCompile(`/modules/([a-z][a-z0-9-]*)`)
)

// modelText is a path's text; the empty one, if a name may not be.
func modelText(path []string) string {
	text := ""
	for _, n := range path {
		if !nameForm.MatchString(n) {
			return ""
		}
		text += "/modules/" + n
	}
	if text == "" {
		return "/"
	}
	return text
}

// modelParse is the path of a text; false, if it has the form of none.
func modelParse(text string) ([]string, bool) {
	var path []string
	if text != "/" && !pathForm.MatchString(text) {
		return nil, false
	}
	for _, found := range oneName.FindAllStringSubmatch(text, -1) {
		path = append(path, found[1])
	}
	return path, true
}

// broken is the number of the chapter's first condition on trees that does not hold; 0: a tree may be.
func broken(t api.Tree) int {
	if len(t.Dirs) == 0 || len(t.Dirs[0].Path) > 0 || flatPack(t.Dirs[0].Pack) != flatPack(api.Package{}) || t.Dirs[0].Node != 0 {
		return 1
	}
	for number, holds := range []func(t api.Tree, at int) bool{
		2: func(t api.Tree, at int) bool { return len(t.Dirs[at].Path) > 0 && modelText(t.Dirs[at].Path) != "" },
		3: func(t api.Tree, at int) bool { return len(modelText(t.Dirs[at].Path)) <= 1024 },
		4: func(t api.Tree, at int) bool { p := modelParent(t, at); return p >= 0 && p < at },
		5: func(t api.Tree, at int) bool { return modelFind(t, t.Dirs[at].Path) == at },
		6: func(t api.Tree, at int) bool { return pack.May(t.Dirs[at].Pack) },
		7: func(t api.Tree, at int) bool {
			return t.Dirs[at].Pack.Name == t.Dirs[at].Path[len(t.Dirs[at].Path)-1]
		},
		8: func(t api.Tree, at int) bool { return t.Dirs[at].Node > 0 },
		9: func(t api.Tree, at int) bool { return at <= 256 },
	} {
		for at := 1; holds != nil && at < len(t.Dirs); at++ {
			if !holds(t, at) {
				return number
			}
		}
	}
	return 0
}

// onePath tells whether two paths are one, name by name.
func onePath(a, b []string) bool {
	for i := range max(len(a), len(b)) {
		if i >= len(a) || i >= len(b) || a[i] != b[i] {
			return false
		}
	}
	return true
}

// modelFind goes from the last place to the first one.
func modelFind(t api.Tree, path []string) int {
	found := -1
	for i := len(t.Dirs) - 1; i >= 0; i-- {
		if onePath(t.Dirs[i].Path, path) {
			found = i
		}
	}
	return found
}

func modelParent(t api.Tree, at int) int {
	if at < 0 || at >= len(t.Dirs) || len(t.Dirs[at].Path) == 0 {
		return -1
	}
	return modelFind(t, t.Dirs[at].Path[:len(t.Dirs[at].Path)-1])
}

// modelInside puts each place ahead of the first one whose name is greater.
func modelInside(t api.Tree, at int) []int {
	var l []int
	if at < 0 || at >= len(t.Dirs) {
		return nil
	}
	for i, d := range t.Dirs {
		n := len(d.Path) - 1
		if n < 0 || !onePath(d.Path[:n], t.Dirs[at].Path) {
			continue
		}
		to := 0
		for to < len(l) && slices.Compare([]byte(t.Dirs[l[to]].Path[n]), []byte(d.Path[n])) <= 0 {
			to++
		}
		l = slices.Insert(l, to, i)
	}
	return l
}

// modelSame is whether the sets of both trees' paths with their packages, as texts, are one.
func modelSame(a, b api.Tree) bool { return maps.Equal(textsOf(a), textsOf(b)) }

func textsOf(t api.Tree) map[string]bool {
	texts := map[string]bool{}
	for _, d := range t.Dirs {
		texts[flatPath(d.Path)+" "+flatPack(d.Pack)] = true
	}
	return texts
}

// askedAsModel tells a fault unless all that is asked of a tree is answered as it must be.
func askedAsModel(t *testing.T, x api.Tree) {
	t.Helper()
	if got, want := tree.Check(x) == api.OK, broken(x) == 0; got != want {
		t.Errorf("Check of %s: %v, not %v", short(flat(x)), got, want)
	}
	for at := -1; at <= len(x.Dirs); at++ {
		hasParent(t, x, at, modelParent(x, at))
		hasInside(t, x, at, modelInside(x, at)...)
	}
	for _, d := range x.Dirs {
		for n := range len(d.Path) + 1 {
			finds(t, x, d.Path[:n], modelFind(x, d.Path[:n]))
			finds(t, x, d.Path[n:], modelFind(x, d.Path[n:]))
		}
		finds(t, x, append(slices.Clone(d.Path), "a"), modelFind(x, append(slices.Clone(d.Path), "a")))
		written(t, d.Path, modelText(d.Path))
	}
}

// source is numbers that look like chance, and are the same each time.
type source uint64

func (s *source) below(n int) int {
	*s = *s*6364136223846793005 + 1442695040888963407
	return int(uint64(*s) >> 33 % uint64(n))
}

func (s *source) pick(texts ...string) string { return texts[s.below(len(texts))] }

// few is names that are near to one another.
var few = []string{"a", "a-", "a-b", "a0", "aa", "b", "modules"}

func (s *source) somePack(name string) api.Package {
	p := api.Package{Name: name, Version: version(s.below(2), s.below(2), s.below(2))}
	*listsOf(&p)[s.below(3)] = deps(few[:s.below(3)]...)
	return p
}

// someTree is a tree that may be.
func (s *source) someTree() api.Tree {
	t := grown()
	for range s.below(30) {
		up := t.Dirs[s.below(len(t.Dirs))].Path
		name := s.pick(few...)
		path := append(slices.Clone(up), name)
		if modelFind(t, path) < 0 {
			t.Dirs = append(t.Dirs, api.Dir{Path: path, Pack: s.somePack(name), Node: 1 + s.below(20)})
		}
	}
	return t
}

// shuffled is the same directories in another order, be it such as may be or not.
func (s *source) shuffled(t api.Tree) api.Tree {
	var out api.Tree
	for _, d := range clone(t).Dirs {
		out.Dirs = slices.Insert(out.Dirs, s.below(len(out.Dirs)+1), d)
	}
	return out
}

// anyTree is a tree of any directories, few of which may be.
func (s *source) anyTree() api.Tree {
	var t api.Tree
	name := func() string { return s.pick(append(noNames(), "a", "b", "b", "a", "A", "")...) }
	for range s.below(12) {
		var d api.Dir
		for range s.below(4) {
			d.Path = append(d.Path, name())
		}
		if s.below(2) == 0 {
			d.Pack = s.somePack(name())
		}
		d.Node = []int{0, 1, -1, math.MinInt, math.MaxInt}[s.below(5)]
		t.Dirs = append(t.Dirs, d)
	}
	return t
}

// noNames is names that may not be.
func noNames() []string {
	return []string{"", "A", "aB", "1a", "-a", "a_b", "a.b", "a/b", "/", "a/", "/a", "a b", " a", "a\n", "\x00", "\xff", "\u00e9", "..", "a\u00e9", "abcdefghijklmnopq", strings.Repeat("a", 5000)}
}

// noPacks is packages, of a name, that may not be.
func noPacks(name string) map[string]api.Package {
	l := map[string]api.Package{}
	for _, n := range []int{-1, 1000, math.MinInt, math.MaxInt} {
		for _, v := range []api.Version{version(n, 0, 0), version(0, n, 0), version(0, 0, n)} {
			l[fmt.Sprint("version ", v)] = api.Package{Name: name, Version: v}
		}
	}
	for i := range 3 {
		for what, list := range map[string][]api.Dep{
			"a name that may not be": deps("A"), "names that fall": deps("b", "a"), "a name twice": deps("a", "a"), "17 names": deps(numbered(17)...),
			"a range of none": {{Name: "b"}}, "a range that may not be": {{Name: "b", Range: []api.Span{{Lo: version(2, 0, 0), Hi: version(1, 0, 0)}}}},
		} {
			p := api.Package{Name: name}
			*listsOf(&p)[i] = list
			l[fmt.Sprint(what, " in list ", i)] = p
		}
	}
	l["a name in two lists"] = api.Package{Name: name, Deps: deps("a"), Optional: deps("a")}
	long := api.Package{Name: name}
	for i, d := range deps(numbered(16)...) {
		d.Range = nil
		for j := range 64 {
			d.Range = append(d.Range, api.Span{Lo: version(i, 2*j, 0), Hi: version(i, 2*j, 0)})
		}
		long.Deps = append(long.Deps, d)
	}
	l["a text that is too long"] = long
	return l
}
