package lock_test

import (
	"testing"

	"halyard/api"
	"halyard/lock"
)

// graphs is graphs that have the form: the edges, and such as look like chance.
func graphs() []api.Graph {
	l := []api.Graph{sized(1), sized(2), base(), sized(128), withContext(pins(names(128)...))}
	for at := range 3 {
		l = append(l, withEdges(3, at, edges(names(128)...)), withEdges(128, at, edges("a 1", "b 9", "c 10", "d 99", "e 100", "f 127")))
	}
	s := source(3)
	for range 2000 {
		l = append(l, s.someGraph())
	}
	return l
}

// Parse of Print is the graph, also of one that has as much as it may.
func TestParseOfPrint(t *testing.T) {
	for _, g := range append(graphs(), greatest()) {
		s, e := lock.Print(g)
		if e != api.OK {
			t.Errorf("Print(%s): error %d", short(text(g)), e)
		}
		reads(t, s, g)
	}
}

// Print of what Parse takes is the text: a graph has one text alone.
func TestPrintOfParse(t *testing.T) {
	s := source(4)
	taken := 0
	for range 20000 {
		whole := s.someText()
		g, e := lock.Parse(whole)
		if e != api.OK {
			continue
		}
		taken++
		if again, e := lock.Print(g); e != api.OK || again != whole || !lock.May(g) {
			t.Fatalf("Print of Parse(%q): %q, error %d", whole, again, e)
		}
	}
	if taken < 2000 {
		t.Errorf("%d texts were taken", taken)
	}
}

// Two graphs of one text are the same.
func TestOneTextOneGraph(t *testing.T) {
	first := map[string]api.Graph{}
	for _, g := range graphs() {
		s, _ := lock.Print(g)
		if other, met := first[s]; met && !same(g, other) {
			t.Fatalf("%s is the text of two graphs", short(s))
		}
		first[s] = g
	}
}
