package plain_test

import (
	"fmt"
	"math"
	"slices"
	"strconv"
	"strings"

	"halyard/api"
	"halyard/catalog"
	"halyard/graph"
	"halyard/manifest"
	"halyard/pack"
	"halyard/span"
	"halyard/vers"
)

// version is the version of a text of the tests, such as `1.2.0`, or `1` for 1.0.0.
func version(text string) api.Version {
	if !strings.Contains(text, ".") {
		text += ".0.0"
	}
	v, ok := vers.Parse(text)
	if !ok {
		panic(text)
	}
	return v
}

func ranged(text string) []api.Span {
	l, e := span.Parse(text)
	if e != api.OK {
		panic(text)
	}
	return l
}

// lines is a text's parts, with `; ` between each two, as lines: first those of the first word, and so on.
func lines(text string, words ...string) string {
	var out strings.Builder
	for _, word := range words {
		for part := range strings.SplitSeq(text, "; ") {
			if first, _, _ := strings.Cut(part, " "); first == word {
				out.WriteString(part + "\n")
			}
		}
	}
	return out.String()
}

// packed is a package such as `a 1.0.0; needs b ^1.0.0`.
func packed(text string) api.Package {
	at, _, _ := strings.Cut(text, "; ")
	p, e := pack.Parse("package " + at + "\n" + lines(text, "needs", "beside", "likes"))
	if e != api.OK {
		panic(text)
	}
	return p
}

// publish puts packages into a catalog.
func publish(c *catalog.Catalog, texts ...string) *catalog.Catalog {
	for _, s := range texts {
		if e := c.Put(packed(s)); e != api.OK {
			panic(s)
		}
	}
	return c
}

// published is a catalog with those packages.
func published(texts ...string) *catalog.Catalog { return publish(catalog.New(), texts...) }

// wanting is a manifest such as `needs a *; dev b *`.
func wanting(text string) api.Manifest {
	m, e := manifest.Parse("project\n" + lines(text, "needs", "dev", "likes", "pins"))
	if e != api.OK {
		panic(text)
	}
	return m
}

// cut is the parts of a text, with `, ` between each two; the empty text has none.
func cut(text string) []string {
	if text == "" {
		return nil
	}
	return strings.Split(text, ", ")
}

// pins is the pins of a text, with `, ` between each two: a name and a version.
func pins(text string) []api.Pin {
	var l []api.Pin
	for _, s := range cut(text) {
		name, v, _ := strings.Cut(s, " ")
		l = append(l, api.Pin{Name: name, Version: version(v)})
	}
	return l
}

func number(s string) int {
	n, err := strconv.Atoi(s)
	if err != nil {
		panic(s)
	}
	return n
}

// edges is the edges of a text, with `, ` between each two: a label and a node's number.
func edges(text string) []api.Edge {
	var l []api.Edge
	for _, s := range cut(text) {
		label, to, _ := strings.Cut(s, " ")
		l = append(l, api.Edge{Label: label, To: number(to)})
	}
	return l
}

// drawn is the graph of nodes such as `p 1.0.0 with b 1.0.0, c 1.0.0: b 2, c 3`; the root is `root: a 1`.
func drawn(texts ...string) api.Graph {
	var g api.Graph
	for _, s := range texts {
		head, led, _ := strings.Cut(s, ": ")
		at, context, _ := strings.Cut(head, " with ")
		n := api.Node{Context: pins(context), Edges: edges(led)}
		if at != "root" {
			n.Name, n.Version = pins(at)[0].Name, pins(at)[0].Version
		}
		g.Nodes = append(g.Nodes, n)
	}
	return g
}

// sameTree tells whether two trees are the same, order and nodes too.
func sameTree(a, b api.Tree) bool {
	return slices.EqualFunc(a.Dirs, b.Dirs, func(a, b api.Dir) bool {
		return slices.Equal(a.Path, b.Path) && a.Node == b.Node && pack.Same(a.Pack, b.Pack)
	})
}

// same tells whether two states are the same.
func same(a, b api.State) bool {
	return manifest.Same(a.Manifest, b.Manifest) && a.Pruned == b.Pruned && graph.Same(a.Graph, b.Graph) && sameTree(a.Tree, b.Tree)
}

// flat is a value as a text that is not too long to tell.
func flat(v any) string {
	s := fmt.Sprintf("%+v", v)
	if len(s) > 3000 {
		return s[:3000] + " and so on"
	}
	return s
}

// example is the limits of the document's examples.
var example = api.Limits{Decisions: 100, Nodes: 20, Dirs: 20, Path: 200}

// widest is the greatest limits that may be, least the least ones.
var (
	widest = api.Limits{Decisions: 4096, Nodes: 128, Dirs: 256, Path: 1024}
	least  = api.Limits{Decisions: 1, Nodes: 1, Dirs: 1, Path: 1}
)

// limit is one of the limits, and what it may be at most.
type limit struct {
	name string
	at   func(l *api.Limits) *int
	most int
}

var (
	decisions = limit{"Decisions", func(l *api.Limits) *int { return &l.Decisions }, 4096}
	nodes     = limit{"Nodes", func(l *api.Limits) *int { return &l.Nodes }, 128}
	dirs      = limit{"Dirs", func(l *api.Limits) *int { return &l.Dirs }, 256}
	path      = limit{"Path", func(l *api.Limits) *int { return &l.Path }, 1024}
)

// of is limits with another number in one place.
func (x limit) of(l api.Limits, n int) api.Limits {
	*x.at(&l) = n
	return l
}

// outside is numbers that the limit may not be: one below and one above, and far outside.
func (x limit) outside() []int {
	return []int{0, x.most + 1, -1, x.most + 2, -x.most, 1 << 32, 1<<32 + 1, math.MinInt, math.MaxInt}
}

// ends is numbers that it may just be.
func (x limit) ends() []int { return []int{1, 2, x.most - 1, x.most} }

// noNames is names that may not be, but for the empty one.
func noNames() []string {
	return []string{"A", "aB", "1a", "-a", "a_b", "a.b", "a/b", "/", "a b", " a", "a ", "a\n", "\x00", "\xff", "\u00e9", "..", "abcdefghijklmnopq", strings.Repeat("a", 5000)}
}

// noVersions is versions that may not be.
func noVersions() []api.Version {
	var l []api.Version
	for _, n := range []int{-1, 1000, math.MinInt, math.MaxInt} {
		l = append(l, api.Version{Major: n}, api.Version{Minor: n}, api.Version{Patch: n})
	}
	return l
}

// noRanges is texts that are no range's, or that of the range of none, but for the empty one.
func noRanges() []string {
	return []string{"x", " ", "||", "1.0.0||", "> 1.0.0", "1.0", "^*", "1.0.0,2.0.0", "1.0.1000", "\xff", strings.Repeat(" ", 4096) + "*", "<0.0.0", ">999.999.999", ">1.0.0 <1.0.1", "1.0.0 2.0.0", singles(65)}
}

// singles is the text of so many single versions, no two of which touch.
func singles(count int) string {
	var l []string
	for i := range count {
		l = append(l, fmt.Sprintf("100.100.%d", 100+2*i))
	}
	return strings.Join(l, " || ")
}

// names is so many names that rise, with that letter ahead.
func names(letter string, count int) []string {
	var l []string
	for i := range count {
		l = append(l, fmt.Sprintf("%s%03d", letter, i))
	}
	return l
}

// each is the lines of a word, of each of some names, with that range.
func each(word string, names []string, text string) string {
	var l []string
	for _, n := range names {
		l = append(l, word+" "+n+" "+text)
	}
	return strings.Join(l, "; ")
}

// all is parts of a text of lines, those that are not empty.
func all(parts ...string) string {
	return strings.Join(slices.DeleteFunc(parts, func(s string) bool { return s == "" }), "; ")
}
