package scan_test

import (
	"slices"
	"strings"
	"testing"
)

// The chapter's table: Join.
func TestExamplesJoin(t *testing.T) {
	joins(t, [][]string{{"a", "bc"}, {"d"}}, "a bc\nd\n")
	joins(t, nil, "")
	joinsNot(t, [][]string{{}})
	joinsNot(t, [][]string{{"a b"}})
	joinsNot(t, [][]string{{"a", ""}})
}

// P4.2: ordinary lines.
func TestJoin(t *testing.T) {
	for want, lines := range map[string][][]string{
		"a\n":                      {{"a"}},
		"a b\n":                    {{"a", "b"}},
		"a a a\n":                  {{"a", "a", "a"}},
		"a\na\n":                   {{"a"}, {"a"}},
		"a b c\nd\ne f\n":          {{"a", "b", "c"}, {"d"}, {"e", "f"}},
		"! ~\n":                    {{"!", "~"}},
		"lock\nroot\nto a 1\n":     {{"lock"}, {"root"}, {"to", "a", "1"}},
		"likes d 1.0.0 || 2.0.0\n": {{"likes", "d", "1.0.0", "||", "2.0.0"}},
	} {
		joins(t, lines, want)
	}
	word := strings.Repeat("x", 1<<20)
	joins(t, [][]string{{word, word}, {word}}, word+" "+word+"\n"+word+"\n")
	joins(t, slices.Repeat([][]string{{"a", "b"}}, 100000), strings.Repeat("a b\n", 100000))
	joins(t, [][]string{slices.Repeat([]string{"w"}, 100000)}, strings.Repeat("w ", 99999)+"w\n")
}

// beside is lines in which one word stands: alone, first, last, in the middle.
func beside(w string) [][][]string {
	return [][][]string{
		{{w}}, {{w, "a"}}, {{"a", w}}, {{"a", w, "b"}}, {{w, w}},
		{{w}, {"a"}}, {{"a"}, {w}}, {{"a", "b"}, {"c", w}, {"d"}}, {{"a"}, {w, "b"}, {"c"}},
	}
}

// P4.2: a line of no word, wherever it stands.
func TestJoinNoWord(t *testing.T) {
	for _, none := range [][]string{nil, {}, make([]string, 0, 5)} {
		joinsNot(t, [][]string{none})
		joinsNot(t, [][]string{none, none})
		joinsNot(t, [][]string{none, {"a"}})
		joinsNot(t, [][]string{{"a"}, none})
		joinsNot(t, [][]string{{"a"}, none, {"b"}})
	}
}

// P4.2: words that are none, wherever they stand.
func TestJoinWrongWord(t *testing.T) {
	for _, w := range []string{
		"", " ", "\n", "  ", "\n\n", "a b", " a", "a ", "a  b", "a\n", "\na", "a\nb", "a b\n", "a\tb", "\t", "a\r", "\r\n", "\x00", "a\x00", "\x1f", "\x7f", "a\x7f", "\x80", "\xff", "\u00e9", "a\u00a0b", "\u3000",
		strings.Repeat("x", 1<<20) + "\x00", strings.Repeat("x", 1<<20) + " ", strings.Repeat(" ", 1<<20),
	} {
		for _, lines := range beside(w) {
			joinsNot(t, lines)
		}
	}
}

// P4.2: each byte in a word's place.
func TestJoinEachByte(t *testing.T) {
	for b := range 256 {
		c := one(b)
		for _, w := range []string{c, c + "a", "a" + c, "a" + c + "a", c + c} {
			for _, lines := range beside(w) {
				if wordByte(b) {
					joins(t, lines, text(lines))
				} else {
					joinsNot(t, lines)
				}
			}
		}
	}
}

// P4.2: one wrong word among many, and one wrong line.
func TestJoinOneWrong(t *testing.T) {
	for at := range 50 {
		words := slices.Repeat([]string{"w"}, 50)
		words[at] = "w w"
		joinsNot(t, [][]string{words})
		lines := slices.Repeat([][]string{{"a", "b"}}, 50)
		lines[at] = nil
		joinsNot(t, lines)
		lines[at] = []string{"a", ""}
		joinsNot(t, lines)
	}
}
