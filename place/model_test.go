package place_test

import (
	"slices"
	"sort"
	"strings"

	"halyard/api"
	"halyard/pack"
	"halyard/tree"
)

// The model: placing by the tests' own means, as near to the words of the chapter as may be. A directory is its path as a text, such as `/a/b`; the root is the empty text.

// modelDirs is directories as a model has them.
type modelDirs struct {
	order   []string             // as they were placed
	nodes   map[string]int       // the node of each
	settled map[[2]string]string // of a directory and a label what it was settled with
	met     map[string]int       // how often something came about
}

// isIn tells whether a directory stands in another one, at any depth.
func isIn(dir, outer string) bool { return strings.HasPrefix(dir, outer+"/") }

// above is the directory in whose modules one stands.
func above(dir string) string { return dir[:strings.LastIndex(dir, "/")] }

// look is what a lookup finds, if it finds something.
func (m modelDirs) look(from, label string) (string, bool) {
	for {
		if _, there := m.nodes[from+"/"+label]; there {
			return from + "/" + label, true
		}
		if from == "" {
			return "", false
		}
		from = above(from)
	}
}

// isSpot asks each word of what a spot is.
func (m modelDirs) isSpot(s, d, label string) bool {
	if s != d && !isIn(d, s) {
		return false
	}
	for _, between := range m.order {
		if between != d && !isIn(d, between) || between != s && !isIn(between, s) {
			continue
		}
		if _, there := m.nodes[between+"/"+label]; there {
			return false
		}
	}
	for edge, with := range m.settled {
		if edge[1] == label && (edge[0] == s || isIn(edge[0], s)) && isIn(s, above(with)) {
			m.met["a spot that an edge forbids"]++
			return false
		}
	}
	return true
}

// spot is the best of all spots.
func (x task) spot(m modelDirs, d string, e api.Edge) string {
	var spots, liked []string
	for _, s := range m.order {
		if m.isSpot(s, d, e.Label) {
			spots = append(spots, s)
			if x.likes(s+"/"+e.Label, e.To) {
				liked = append(liked, s)
			}
		}
	}
	nearest := func(l []string) string {
		sort.Slice(l, func(i, j int) bool { return len(l[i]) < len(l[j]) })
		return l[0]
	}
	if len(spots) > 1 {
		m.met["several spots"]++
	}
	if len(liked) > 0 {
		if nearest(liked) != nearest(spots) {
			m.met["liked lower"]++
		}
		return nearest(liked)
	}
	if s := nearest(spots); s != "" && s != d {
		m.met["between"]++
	}
	return nearest(spots)
}

// likes tells whether the old tree has a node's package there.
func (x task) likes(dir string, node int) bool {
	if x.old == nil {
		return false
	}
	for _, d := range x.old.Dirs {
		if len(d.Path) > 0 && "/"+strings.Join(d.Path, "/") == dir {
			return pack.Same(d.Pack, x.packs[node])
		}
	}
	return false
}

// put places a node in the modules of a directory.
func (x task) put(m *modelDirs, s string, e api.Edge) (string, api.Errno) {
	dir := s + "/" + e.Label
	if len(strings.ReplaceAll(dir, "/", "/modules/")) > x.l.Path {
		return "", api.ErrTooLong
	}
	if len(m.order)-1 == x.l.Dirs {
		return "", api.ErrTooDeep
	}
	m.order = append(m.order, dir)
	m.nodes[dir] = e.To
	return dir, api.OK
}

// model is what is placed; what came about is counted in met, if it is not nil.
func (x task) model(met map[string]int) (api.Tree, api.Errno) {
	if x.l.Dirs < 1 || x.l.Dirs > 256 || x.l.Path < 1 || x.l.Path > 1024 {
		return api.Tree{}, api.ErrArg
	}
	if x.old != nil && tree.Check(*x.old) != api.OK {
		return api.Tree{}, api.ErrTree
	}
	if !x.placeable() {
		return api.Tree{}, api.ErrGraph
	}
	if met == nil {
		met = map[string]int{}
	}
	m := modelDirs{order: []string{""}, nodes: map[string]int{"": 0}, settled: map[[2]string]string{}, met: met}
	for i := 0; i < len(m.order); i++ {
		for _, step := range []func(*modelDirs, string) api.Errno{x.firstStep, x.secondStep, x.thirdStep} {
			if e := step(&m, m.order[i]); e != api.OK {
				return api.Tree{}, e
			}
		}
	}
	return x.told(m), api.OK
}

// told sorts the directories by their texts.
func (x task) told(m modelDirs) api.Tree {
	texts := map[string]string{}
	var l []string
	for _, dir := range m.order {
		text := strings.ReplaceAll(dir, "/", "/modules/")
		texts[text] = dir
		l = append(l, text)
	}
	sort.Strings(l)
	var t api.Tree
	for _, text := range l {
		dir := texts[text]
		t.Dirs = append(t.Dirs, api.Dir{Path: strings.FieldsFunc(dir, isSlash), Pack: x.packs[m.nodes[dir]], Node: m.nodes[dir]})
	}
	return t
}

func isBeside(n api.Node, label string) bool {
	for _, q := range n.Context {
		if q.Name == label {
			return true
		}
	}
	return false
}

func (x task) firstStep(m *modelDirs, d string) api.Errno {
	n := x.g.Nodes[m.nodes[d]]
	for _, e := range n.Edges {
		if !isBeside(n, e.Label) {
			continue
		}
		found, some := m.look(d, e.Label)
		if !some || m.nodes[found] != e.To {
			return api.ErrGraph
		}
		m.met["beside"]++
		m.settled[[2]string{d, e.Label}] = found
	}
	return api.OK
}

func (x task) secondStep(m *modelDirs, d string) api.Errno {
	n := x.g.Nodes[m.nodes[d]]
	for _, e := range n.Edges {
		if isBeside(n, e.Label) || len(x.g.Nodes[e.To].Context) > 0 {
			continue
		}
		found, some := m.look(d, e.Label)
		if !some || m.nodes[found] != e.To {
			var errno api.Errno
			if found, errno = x.put(m, x.spot(*m, d, e), e); errno != api.OK {
				return errno
			}
		}
		m.settled[[2]string{d, e.Label}] = found
	}
	return api.OK
}

func (x task) thirdStep(m *modelDirs, d string) api.Errno {
	n := x.g.Nodes[m.nodes[d]]
	for _, e := range n.Edges {
		if isBeside(n, e.Label) || len(x.g.Nodes[e.To].Context) == 0 {
			continue
		}
		found, will := m.look(d, e.Label)
		will = will && m.nodes[found] == e.To
		for _, q := range x.g.Nodes[e.To].Context {
			if !will {
				break
			}
			with, settled := m.settled[[2]string{d, q.Name}]
			seen, some := m.look(found, q.Name)
			will = settled && some && seen == with
			if !settled {
				m.met["found, with a name that is not settled"]++
			} else if !will {
				m.met["found, and sees other ones"]++
			}
		}
		if will {
			m.met["found, and sees the same"]++
		} else {
			var errno api.Errno
			if found, errno = x.put(m, d, e); errno != api.OK {
				return errno
			}
		}
		m.settled[[2]string{d, e.Label}] = found
	}
	return api.OK
}

// placeable tells whether a graph can be placed.
func (x task) placeable() bool {
	count := len(x.g.Nodes)
	if count < 1 || count > 128 || len(x.packs) != count {
		return false
	}
	for i, n := range x.g.Nodes {
		p := x.packs[i]
		empty := n.Name == "" && n.Version == api.Version{} && len(n.Context) == 0 && p.Name == "" && p.Version == api.Version{} && len(p.Deps)+len(p.Peers)+len(p.Optional) == 0
		same := pack.May(p) && p.Name == n.Name && p.Version == n.Version
		if i == 0 && !empty || i > 0 && !same {
			return false
		}
		told, ok := x.led(n)
		if !ok {
			return false
		}
		var names []string
		for _, q := range n.Context {
			names = append(names, q.Name)
			if v, some := told[q.Name]; !some || v != q.Version {
				return false
			}
		}
		if !rising(names) {
			return false
		}
	}
	return true
}

// led is of each edge of a node its label, with the version of the node to which it leads; false, if one of them may not be.
func (x task) led(n api.Node) (map[string]api.Version, bool) {
	told := map[string]api.Version{}
	var labels []string
	for _, e := range n.Edges {
		if e.To < 1 || e.To > len(x.g.Nodes)-1 || x.g.Nodes[e.To].Name != e.Label {
			return nil, false
		}
		labels = append(labels, e.Label)
		told[e.Label] = x.g.Nodes[e.To].Version
	}
	return told, rising(labels)
}

// rising tells whether names rise, each once.
func rising(l []string) bool {
	other := slices.Clone(l)
	sort.Strings(other)
	return slices.Equal(l, slices.Compact(other))
}
