package scan_test

import (
	"testing"

	"halyard/api"
	"halyard/scan"
)

// Lines of Join is the lines.
func TestLinesOfJoin(t *testing.T) {
	s := source(2)
	lists := [][][]string{nil, {}, {{"a"}}, {{"!"}, {"~"}}, {{"a", "a"}, {"a"}}, {{"a"}, {"a", "a"}}}
	for range 3000 {
		lists = append(lists, s.someLines())
	}
	for _, lines := range lists {
		whole, e := scan.Join(lines)
		if e != api.OK {
			t.Errorf("Join(%s): error %d", few(lines), e)
		}
		reads(t, whole, len(whole), lines)
	}
}

// Join of Lines is the text; what Lines does not take, Join never writes.
func TestJoinOfLines(t *testing.T) {
	texts := append(all(6, "a", "~", " ", "\n"), all(4, "ab", "c d", "e\n", " ", "\n", "\x7f\n")...)
	s := source(3)
	for range 3000 {
		texts = append(texts, text(s.someLines()))
	}
	taken := 0
	for _, whole := range texts {
		lines, e, _ := scan.Lines(whole, len(whole))
		if e == api.OK {
			taken++
			joins(t, lines, whole)
		}
	}
	if taken < 3000 {
		t.Errorf("%d texts were taken", taken)
	}
}

// Join takes just the lists of which Lines of their text is the list.
func TestJoinTakes(t *testing.T) {
	words := all(2, "a", " ", "\n", "\x00")
	lists := [][][]string{nil, {nil}, {nil, nil}}
	for _, a := range words {
		lists = append(lists, [][]string{{a}}, [][]string{{a}, nil}, [][]string{nil, {a}})
		for _, b := range words {
			lists = append(lists, [][]string{{a, b}}, [][]string{{a}, {b}}, [][]string{{a, b}, {a}}, [][]string{{a}, {b, b}})
		}
	}
	for _, lines := range lists {
		if read, e, _ := scan.Lines(text(lines), enough); e == api.OK && same(read, lines) {
			joins(t, lines, text(lines))
		} else {
			joinsNot(t, lines)
		}
	}
}
