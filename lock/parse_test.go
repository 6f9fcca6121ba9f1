package lock_test

import (
	"fmt"
	"strings"
	"testing"

	"halyard/api"
	"halyard/lock"
)

const head = "lock\nroot\n"

// tail is two nodes, so that edges have somewhere to lead.
const tail = "node y 1.0.0\nnode z 2.0.0\n"

// The chapter's table: what Parse reads.
func TestExamples(t *testing.T) {
	reads(t, "lock\nroot\n", graph(api.Node{}))
	reads(t, "lock\nroot\nto a 1\nnode a 1.0.0\nwith b 2.0.0\nto a 1\n", api.Graph{Nodes: []api.Node{
		{Edges: []api.Edge{{Label: "a", To: 1}}},
		{Name: "a", Version: version(1, 0, 0), Context: []api.Pin{{Name: "b", Version: version(2, 0, 0)}}, Edges: []api.Edge{{Label: "a", To: 1}}}}})
}

// The chapter's table: what Parse refuses.
func TestExamplesRefused(t *testing.T) {
	for _, s := range []string{
		"", "lock\n", "lock\nroot\nto a 1\n", "lock\nroot\nto a 0\n", "lock\nroot\nwith a 1.0.0\n",
		"lock\nroot\nnode a 1.0.0\nto a 1\nwith b 1.0.0\n", "lock\nnode a 1.0.0\nroot\n", "node a 1.0.0\nroot\n", "lock\nnode a 1.0.0\n",
	} {
		refuses(t, s, api.ErrLine)
	}
}

// P7.2: what is no text of lines, whichever line is none.
func TestNoLines(t *testing.T) {
	for _, s := range []string{
		"\n", " ", " \n", "lock", "lock\nroot", "lock\n\n", "lock\n\nroot\n", "lock\nroot\n\n", "\nlock\nroot\n", "lock \nroot\n", " lock\nroot\n", "lock\nroot \n", "lock\n root\n", "lock\troot\n", "lock\r\nroot\r\n", "lock\x00\nroot\n",
		head + "node a 1.0.0", head + "node  a 1.0.0\n", head + "node a 1.0.0 \n", head + "node a\t1.0.0\n", head + "node \u00e9 1.0.0\n", head + "node a 1.0.0\n ", head + "node a 1.0.0\nto a 1", head + "node a 1.0.0\nto a 1\x7f\n",
	} {
		refuses(t, s, api.ErrLine)
	}
}

// P7.2: a text of more than 1048576 bytes is refused ahead of all else; what is as long as it may be is no graph's.
func TestLongTexts(t *testing.T) {
	whole := text(greatest())
	if len(whole) < 900000 || len(whole) > 1048576 {
		t.Fatalf("%d bytes", len(whole))
	}
	reads(t, whole, greatest())
	pad := func(s string, bytes int) string { return s + strings.Repeat("x", bytes-len(s)-1) + "\n" }
	for _, s := range []string{"", "lock\n", head, head + tail, whole, "lock\n\n", "x\n"} {
		for _, bytes := range []int{1048575, 1048576} {
			refuses(t, pad(s, bytes), api.ErrLine)
		}
		for _, bytes := range []int{1048577, 1048578, 2000000} {
			refuses(t, pad(s, bytes), api.ErrText)
		}
	}
	for _, s := range []string{"\n", "a\n", "lock\n", "node a 1.0.0\n", "x"} {
		refuses(t, strings.Repeat(s, 1048576/len(s)), api.ErrLine)
		refuses(t, strings.Repeat(s, 1048576/len(s)+1), api.ErrText)
		refuses(t, head+strings.Repeat(s, 1000), api.ErrLine)
	}
}

// P7.2: the first two lines are the words `lock` and `root` alone.
func TestFirstLines(t *testing.T) {
	for _, s := range []string{"lock\n", "root\n", "root\nlock\n", "lock lock\nroot\n", "lock root\n", "lock 1\nroot\n", "lock\nroot root\n", "lock\nroot a\n", "lock\nroot a 1.0.0\n", "lock\nroot 0.0.0\n", "Lock\nroot\n", "lock\nRoot\n", "locks\nroot\n", "loc\nroot\n", "lock\nroots\n", "lock\nlock\nroot\n", "lock\nlock\n", "project\nroot\n", "package a 1.0.0\nroot\n",
		"lock\nnode a 1.0.0\n", "lock\nwith a 1.0.0\n", "lock\nto a 1\n", "lock\nwith a 1.0.0\nroot\n", "lock\nto a 1\nroot\n", "lock\nto y 1\nroot\n", "lock\nnode root 0.0.0\n", "root\nroot\n", "x\n", "!\n"} {
		refuses(t, s, api.ErrLine)
		refuses(t, s+tail, api.ErrLine)
	}
}

// P7.2: the later lines: their words, and how many there are.
func TestLaterLines(t *testing.T) {
	reads(t, head+tail+"with x 1.0.0\nto x 1\n", graph(api.Node{}, node("y"), api.Node{Name: "z", Version: version(2, 0, 0), Context: pins("x"), Edges: edges("x")}))
	for _, s := range []string{
		"root", "lock", "root a 1.0.0", "lock a 1.0.0", "Node a 1.0.0", "nodes a 1.0.0", "nod a 1.0.0", "With a 1.0.0", "without a 1.0.0", "To a 1", "too a 1", "t a 1", "needs a *", "package a 1.0.0", "a 1.0.0", "a node 1.0.0", "1 a to", "x", "-",
		"node", "node a", "node 1.0.0", "node a 1.0.0 1.0.0", "node a b 1.0.0", "node a 1.0.0 x",
		"with", "with a", "with 1.0.0", "with a 1.0.0 1.0.0", "with a b 1.0.0", "with a 1.0.0 x",
		"to", "to a", "to 1", "to a 1 1", "to a b 1", "to a 1 x",
		"node 1.0.0 a", "with 1.0.0 a", "to 1 a", "node a 1", "with a 1", "to a 1.0.0",
	} {
		for _, before := range []string{head, head + tail, head + "to y 1\n" + tail, head + tail + "with x 1.0.0\n", head + tail + "to x 1\n"} {
			refuses(t, before+s+"\n", api.ErrLine)
			refuses(t, before+s+"\n"+tail, api.ErrLine)
		}
	}
}

// P7.2: where lines may stand: pins ahead of edges, the first node without pins and once alone.
func TestOrder(t *testing.T) {
	for _, s := range []string{
		head + "with x 1.0.0\n" + tail, head + "to y 1\nwith x 1.0.0\n" + tail, head + "with x 1.0.0\nto y 1\n" + tail, head + "with x 0.0.0\n",
		head + "root\n", head + "root\n" + tail, head + tail + "root\n", head + tail + "to y 1\nroot\n", head + tail + head, head + tail + "lock\n",
		head + "node a 1.0.0\nto b 1\nwith c 1.0.0\n", head + "node a 1.0.0\nwith a 1.0.0\nto b 1\nwith c 1.0.0\n", head + "node a 1.0.0\nto b 1\nwith a 1.0.0\nto c 1\n",
	} {
		refuses(t, s, api.ErrLine)
	}
	reads(t, head+"node a 1.0.0\nto b 1\nnode c 1.0.0\nwith a 1.0.0\n", graph(api.Node{}, api.Node{Name: "a", Version: version(1, 0, 0), Edges: edges("b")}, api.Node{Name: "c", Version: version(1, 0, 0), Context: pins("a")}))
}

// P7.2: names that may not be, of nodes, pins and edges.
func TestNames(t *testing.T) {
	for _, name := range []string{"A", "aB", "1a", "-a", "a_", "a.b", "abcdefghijklmnopq", "*", "1.0.0", "1"} {
		refuses(t, head+"node "+name+" 1.0.0\n", api.ErrLine)
		refuses(t, head+tail+"with "+name+" 1.0.0\n", api.ErrLine)
		refuses(t, head+tail+"to "+name+" 1\n", api.ErrLine)
		refuses(t, head+"to "+name+" 1\n"+tail, api.ErrLine)
	}
	for _, name := range []string{"a", "a-", "a-1", "z9", "abcdefghijklmnop", "lock", "root", "node", "with", "to"} {
		reads(t, head+"to "+name+" 1\nnode "+name+" 3.0.0\nwith "+name+" 4.0.0\nto "+name+" 1\n",
			graph(api.Node{Edges: edges(name)}, api.Node{Name: name, Version: version(3, 0, 0), Context: pins(name + " 4.0.0"), Edges: edges(name)}))
	}
}

// P7.2: names rise, each once, in a context and among edges.
func TestNamesThatDoNotRise(t *testing.T) {
	for _, l := range [][]string{{"b", "a"}, {"a", "a"}, {"a", "c", "b"}, {"a", "b", "b"}, {"a", "b", "a"}, {"aa", "a"}, {"a0", "a-"}, {"aa", "a9"}, {"x9", "x10"}} {
		refuses(t, text(withContext(pins(l...))), api.ErrLine)
		for at := range 3 {
			refuses(t, text(withEdges(3, at, edges(l...))), api.ErrLine)
		}
	}
	refuses(t, head+tail+"with a 1.0.0\nwith a 2.0.0\n", api.ErrLine)
	refuses(t, head+"to a 1\nto a 2\n"+tail, api.ErrLine)
	for _, l := range [][]string{{"a", "b"}, {"a", "a-", "a0", "aa"}, {"x10", "x9"}} {
		reads(t, text(withContext(pins(l...))), withContext(pins(l...)))
		for at := range 3 {
			reads(t, text(withEdges(3, at, edges(l...))), withEdges(3, at, edges(l...)))
		}
	}
}

// P7.2: versions that are written otherwise than Print writes them, or are none.
func TestVersions(t *testing.T) {
	for _, v := range []string{"1", "1.0", "1.0.0.0", "01.0.0", "1.00.0", "1.0.00", "1.0.1000", "1000.0.0", "-1.0.0", "+1.0.0", "1.0.-0", "v1.0.0", "=1.0.0", "^1.0.0", "*", "1.0.0-", "1..0", ".1.0.0", "1.0.0.", "1,0,0", "a", "18446744073709551617.0.0", "1.0.x"} {
		refuses(t, head+"node a "+v+"\n", api.ErrLine)
		refuses(t, head+tail+"with a "+v+"\n", api.ErrLine)
	}
	for _, v := range []string{"0.0.0", "999.999.999", "1.10.100", "10.0.7"} {
		reads(t, head+"node a "+v+"\nwith b "+v+"\n", graph(api.Node{}, api.Node{Name: "a", Version: numbers(v), Context: pins("b " + v)}))
	}
}

// P7.2: numbers that are written otherwise than Print writes them, or are none, or too great.
func TestNumbers(t *testing.T) {
	for _, n := range []string{"+1", "-1", "-0", "+0", "01", "00", "001", "1.0", "1.", "1e0", "0x1", "1_0", "x", "a", "*", "0", "3", "4", "10", "127", "128", "129", "257", "65537", "4294967297", "18446744073709551617", "9223372036854775807", "9223372036854775808", "-9223372036854775808", strings.Repeat("1", 400), strings.Repeat("0", 400) + "1"} {
		refuses(t, head+"to a "+n+"\n"+tail, api.ErrLine)
		refuses(t, head+tail+"to a "+n+"\n", api.ErrLine)
	}
}

// P7.2: an edge may lead to a node that comes later, to its own one, to one ahead; to the last one, but not to one more.
func TestWhereTheyLead(t *testing.T) {
	for _, count := range []int{1, 2, 3, 10, 11, 100, 101, 127, 128} {
		for _, at := range []int{0, count / 2, count - 1} {
			for _, to := range []int{0, 1, 2, count / 2, count - 1, count, count + 1} {
				g := withEdges(count, at, []api.Edge{{Label: "a", To: to}})
				if 1 <= to && to < count {
					reads(t, text(g), g)
				} else {
					refuses(t, text(g), api.ErrLine)
				}
			}
		}
	}
}

// P7.2: how many nodes, pins and edges there may be.
func TestHowMany(t *testing.T) {
	for _, count := range []int{0, 1, 2, 127, 128, 129, 130, 257} {
		l := []api.Graph{sized(count), withContext(pins(names(count)...)), withEdges(3, 0, edges(names(count)...)), withEdges(3, 1, edges(names(count)...)), withEdges(3, 2, edges(names(count)...))}
		for i, g := range l {
			// Only the first of them, of no node, is no graph.
			if count > 128 || count == 0 && i == 0 {
				refuses(t, text(g), api.ErrLine)
			} else {
				reads(t, text(g), g)
			}
		}
	}
}

// P7.2: a wrong line is found wherever it stands, in whichever node.
func TestOneWrongLine(t *testing.T) {
	good := strings.SplitAfter(text(base()), "\n")
	for at := range len(good) {
		for _, wrong := range []string{"\n", "x\n", "root\n", "lock\n", "node\n", "to a 0\n", "to a 5\n", "with a 1.0\n", "node A 1.0.0\n"} {
			l := append(append([]string{}, good[:at]...), wrong)
			refuses(t, strings.Join(append(l, good[at:]...), ""), api.ErrLine)
		}
	}
}

// someText is a text that is nearly a graph's: at some places other words stand, or none, or lines are gone or stand elsewhere.
func (s *source) someText() string {
	l := strings.SplitAfter(text(s.someGraph()), "\n")
	l = l[:len(l)-1]
	if s.below(4) == 0 {
		i, j := s.below(len(l)), s.below(len(l))
		l[i], l[j] = l[j], l[i]
	}
	if s.below(4) == 0 {
		l = append(l, l[s.below(len(l))])
	}
	for range s.below(2) {
		i := s.below(len(l))
		words := strings.Split(l[i], " ")
		words[s.below(len(words))] = s.pick("lock", "root", "node", "with", "to", "a", "B", "zz", "1.0", "1.0.0", "0", "1", "2", "9", "127", "01", "0\n", "1\n", "2\n", "7\n", "1.0.0\n", "01.0.0\n", "", "\n", "root\n", "to b 1\n", "with b 1.0.0\n", "node b 1.0.0\n")
		l[i] = strings.Join(words, " ")
	}
	return strings.Join(l, "")
}

// P7.2: Parse answers as the model does, of many texts that are nearly graphs'.
func TestParseAsModel(t *testing.T) {
	s := source(2)
	met := map[api.Errno]int{}
	for range 30000 {
		whole := s.someText()
		want, e := model(whole)
		met[e]++
		if g, got := lock.Parse(whole); got != e || !same(g, want) {
			t.Fatalf("Parse(%q): %q, error %d, not error %d, %q", whole, text(g), got, e, text(want))
		}
	}
	if met[api.OK] < 3000 || met[api.ErrLine] < 3000 {
		t.Error("the errors were met so often:", fmt.Sprint(met))
	}
}
