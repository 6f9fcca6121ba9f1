package lock

import (
	"strconv"

	"halyard/api"
	"halyard/scan"
	"halyard/vers"
)

// mostText is how many bytes a text may have that is read. That of a graph of 128 nodes with all that each may have is shorter, so that all that Print writes Parse takes.
const mostText = 1048576

// The words that begin lines.
const (
	wordHead  = "lock"
	wordFirst = "root"
	wordLater = "node"
	wordPin   = "with"
	wordEdge  = "to"
)

// Print writes a graph.
func Print(g api.Graph) (string, api.Errno) {
	if !May(g) {
		return "", api.ErrGraph
	}
	lines := [][]string{{wordHead}, {wordFirst}}
	for i, n := range g.Nodes {
		if i > 0 {
			lines = append(lines, []string{wordLater, n.Name, vers.Print(n.Version)})
		}
		lines = appendLists(lines, n)
	}
	return scan.Join(lines)
}

// appendLists puts the lines of a node's context and of its edges behind others.
func appendLists(lines [][]string, n api.Node) [][]string {
	for _, p := range n.Context {
		lines = append(lines, []string{wordPin, p.Name, vers.Print(p.Version)})
	}
	for _, e := range n.Edges {
		lines = append(lines, []string{wordEdge, e.Label, strconv.Itoa(e.To)})
	}
	return lines
}

// Parse reads a graph.
func Parse(text string) (api.Graph, api.Errno) {
	lines, e, _ := scan.Lines(text, mostText)
	if e != api.OK {
		return api.Graph{}, e
	}
	g, ok := read(lines)
	if !ok || !May(g) {
		return api.Graph{}, api.ErrLine
	}
	return g, api.OK
}

// read reads a graph out of lines; false, if one of them has other words than it needs, or stands where it may not. The graph may lack the form of one yet: only at the end is it known which nodes there are for edges to lead to.
func read(lines [][]string) (api.Graph, bool) {
	if len(lines) == 0 || len(lines[0]) != 1 || lines[0][0] != wordHead {
		return api.Graph{}, false
	}
	var r reader
	for _, line := range lines[1:] {
		if !r.take(line[0], line[1:]) {
			return api.Graph{}, false
		}
	}
	return api.Graph{Nodes: r.nodes}, true
}

// reader is what is read so far; at is the node that is read, nil ahead of the first one.
type reader struct {
	nodes []api.Node
	at    *api.Node
}

// take takes a line: its first word, and the words behind that; false, if there is no such line, or it may not stand here.
func (r *reader) take(word string, words []string) bool {
	// The first node stands ahead of all else, and there is no second one.
	if (word == wordFirst) != (r.at == nil) {
		return false
	}
	switch word {
	case wordFirst:
		return r.takeFirst(words)
	case wordLater:
		return r.takeLater(words)
	case wordPin:
		return r.takePin(words)
	case wordEdge:
		return r.takeEdge(words)
	}
	return false
}

func (r *reader) takeFirst(words []string) bool {
	if len(words) != 0 {
		return false
	}
	r.begin(api.Node{})
	return true
}

func (r *reader) takeLater(words []string) bool {
	p, ok := readPin(words)
	if !ok {
		return false
	}
	r.begin(api.Node{Name: p.Name, Version: p.Version})
	return true
}

// begin begins a node. The nodes may move as they grow, so the pointer is taken anew.
func (r *reader) begin(n api.Node) {
	r.nodes = append(r.nodes, n)
	r.at = &r.nodes[len(r.nodes)-1]
}

// takePin: a node's pins stand ahead of its edges.
func (r *reader) takePin(words []string) bool {
	p, ok := readPin(words)
	if !ok || len(r.at.Edges) > 0 {
		return false
	}
	r.at.Context = append(r.at.Context, p)
	return true
}

func (r *reader) takeEdge(words []string) bool {
	e, ok := readEdge(words)
	if !ok {
		return false
	}
	r.at.Edges = append(r.at.Edges, e)
	return true
}

// readPin reads a name and a version; whether that name may be is not asked.
func readPin(words []string) (api.Pin, bool) {
	if len(words) != 2 {
		return api.Pin{}, false
	}
	v, ok := vers.Parse(words[1])
	return api.Pin{Name: words[0], Version: v}, ok
}

// readEdge reads a label and a number; whether the node that it names is there is not known yet.
func readEdge(words []string) (api.Edge, bool) {
	if len(words) != 2 {
		return api.Edge{}, false
	}
	to, ok := scan.Number(words[1], api.MaxNodes-1)
	return api.Edge{Label: words[0], To: to}, ok
}
