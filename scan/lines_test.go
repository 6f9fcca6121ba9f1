package scan_test

import (
	"math"
	"strings"
	"testing"

	"halyard/api"
	"halyard/scan"
)

// The chapter's table: Lines.
func TestExamplesLines(t *testing.T) {
	const most = 100
	reads(t, "a bc\nd\n", most, [][]string{{"a", "bc"}, {"d"}})
	reads(t, "", most, nil)
	for s, want := range map[string]int{"\n": 1, "a\nb \n": 2, "a  b\n": 1, " a\n": 1, "a\nb": 2, "a\tb\n": 1} {
		if l, e, n := scan.Lines(s, most); len(l) != 0 || e != api.ErrLine || n != want {
			t.Errorf("Lines(%q): %q, error %d, %d, not error %d, %d", s, l, e, n, api.ErrLine, want)
		}
	}
	tooLong(t, "abc\n", 3)
	reads(t, "abc\n", 4, [][]string{{"abc"}})
	tooLong(t, "", -1)
}

// P4.1: ordinary texts.
func TestLines(t *testing.T) {
	for s, want := range map[string][][]string{
		"a\n":                               {{"a"}},
		"abc\n":                             {{"abc"}},
		"a b\n":                             {{"a", "b"}},
		"a b c d e\n":                       {{"a", "b", "c", "d", "e"}},
		"a\nb\n":                            {{"a"}, {"b"}},
		"a\na\na\n":                         {{"a"}, {"a"}, {"a"}},
		"a b\nc\nd e f\n":                   {{"a", "b"}, {"c"}, {"d", "e", "f"}},
		"a\nb c d\ne\n":                     {{"a"}, {"b", "c", "d"}, {"e"}},
		"!\n":                               {{"!"}},
		"~\n":                               {{"~"}},
		"! ~\n~ !\n":                        {{"!", "~"}, {"~", "!"}},
		"package a 1.2.0\nneeds b ^1.0.0\n": {{"package", "a", "1.2.0"}, {"needs", "b", "^1.0.0"}},
		"likes d 1.0.0 || 2.0.0\n":          {{"likes", "d", "1.0.0", "||", "2.0.0"}},
		"\\n \"x\" 'y'\n":                   {{"\\n", "\"x\"", "'y'"}},
		"0 -1 // A_B\n":                     {{"0", "-1", "//", "A_B"}},
	} {
		reads(t, s, enough, want)
	}
}

// P4.1: a text of no line, and lines that are hardly one.
func TestNoLine(t *testing.T) {
	for _, most := range []int{0, 1, 100, math.MaxInt} {
		reads(t, "", most, nil)
	}
	readsNot(t, "\n", 1)
	readsNot(t, "\n\n", 1)
	readsNot(t, " ", 1)
	readsNot(t, " \n", 1)
	readsNot(t, "  \n", 1)
	readsNot(t, "a", 1)
	readsNot(t, "\na\n", 1)
	readsNot(t, "a\n\n", 2)
	readsNot(t, "a\n\nb\n", 2)
	readsNot(t, "a\n \nb\n", 2)
}

// P4.1: a text of most bytes, and of one more; most may be any number.
func TestMostBytes(t *testing.T) {
	for _, size := range []int{2, 3, 4, 100, 4096, 65536} {
		word := strings.Repeat("x", size-1)
		for _, most := range []int{size, size + 1, size + 1000, math.MaxInt32, math.MaxInt - 1, math.MaxInt} {
			reads(t, word+"\n", most, [][]string{{word}})
		}
		for _, most := range []int{size - 1, size - 2, size / 2, 0, -1, -size, math.MinInt32, math.MinInt + 1, math.MinInt} {
			tooLong(t, word+"\n", most)
		}
	}
	for _, most := range []int{-1, -2, -100, math.MinInt32, math.MinInt + 1, math.MinInt} {
		tooLong(t, "", most)
	}
}

// P4.1: ErrText stands ahead of ErrLine.
func TestTooLongAndNoLine(t *testing.T) {
	for _, s := range []string{"\n", " ", "a", "a\n\n", "a\nb ", "\x00", " a\n", "a  b\n", "ab\x7f"} {
		for _, most := range []int{len(s) - 1, 0, -1, math.MinInt} {
			tooLong(t, s, most)
		}
		if _, e, n := scan.Lines(s, len(s)); e != api.ErrLine || n < 1 {
			t.Errorf("Lines(%q, %d): error %d, %d", s, len(s), e, n)
		}
	}
}

// P4.1: bytes are counted, not letters.
func TestMostCountsBytes(t *testing.T) {
	tooLong(t, "\u00e9\u00e9", 3)
	if _, e, n := scan.Lines("\u00e9\u00e9", 4); e != api.ErrLine || n != 1 {
		t.Errorf("Lines of four bytes, most 4: error %d, %d", e, n)
	}
}

// P4.1: a blank ahead, behind, twice, in the first, a middle and the last line.
func TestBlanks(t *testing.T) {
	for _, s := range []string{" a", "a ", "a  b", " a b", "a b ", "a b  c", "a  b c", "  a", "a  ", " ", "  ", " a ", "a   b", "a    ", ""} {
		readsNot(t, s+"\n", 1)
		readsNot(t, s+"\nx\n", 1)
		readsNot(t, "x\n"+s+"\n", 2)
		readsNot(t, "x y\n"+s+"\nz\n", 2)
		readsNot(t, "x\ny z\nx\n"+s+"\n", 4)
	}
}

// P4.1: each byte in a word's place: alone, first, last, in the middle.
func TestEachByte(t *testing.T) {
	for b := range 256 {
		c := one(b)
		for _, s := range []string{c, c + "a", "a" + c, "a" + c + "a", c + c} {
			switch {
			case wordByte(b):
				reads(t, s+"\n", enough, [][]string{{s}})
				reads(t, "x\ny "+s+" z\n", enough, [][]string{{"x"}, {"y", s, "z"}})
			case b != 32 && b != 10:
				readsNot(t, s+"\n", 1)
				readsNot(t, "x\ny "+s+" z\nx\n", 2)
				readsNot(t, "x\ny\n"+s, 3)
			default: // a blank and the byte 10 end a word: the model knows of what
				agrees(t, s+"\n")
				agrees(t, "x\ny "+s+" z\n")
			}
		}
	}
	reads(t, "a b\n", enough, [][]string{{"a", "b"}})
	reads(t, "a\nb\n", enough, [][]string{{"a"}, {"b"}})
}

// P4.1: what is no byte of a word is no blank and no end of a line either.
func TestOtherBlanks(t *testing.T) {
	for _, s := range []string{"\t", "\r", "\v", "\f", "\x00", "\x1f", "\x7f", "\x80", "\x85", "\xa0", "\xff", "\u00a0", "\u2028", "\u3000", "\ufeff", "\u00e9"} {
		readsNot(t, "a"+s+"b\n", 1)
		readsNot(t, "a"+s+"\n", 1)
		readsNot(t, s+"a\n", 1)
		readsNot(t, "a\nb"+s, 2)
		readsNot(t, "a\n"+s+"\n", 2)
		readsNot(t, "a"+s, 1)
	}
	readsNot(t, "a\r\nb\r\n", 1)
}

// P4.1: what stands behind the last byte 10 is a line that is none.
func TestBehindTheLast(t *testing.T) {
	for _, s := range []string{"a", "a b", "abc d", " ", "a ", " a", "a  b", "\x00", "~", "\xff"} {
		readsNot(t, s, 1)
		readsNot(t, "x\n"+s, 2)
		readsNot(t, "x y\nz\n"+s, 3)
		readsNot(t, strings.Repeat("x\n", 1000)+s, 1001)
	}
}

// P4.1: the number is that of the first line that is none, when several are.
func TestFirstOfSeveral(t *testing.T) {
	readsNot(t, "\n\n\n", 1)
	readsNot(t, "a\n\nb\n\n", 2)
	readsNot(t, "a \nb\n c\n", 1)
	readsNot(t, "a\nb\n c\nd \n\n", 3)
	readsNot(t, "a\nb \nc", 2)
	readsNot(t, "a\nb\nc  d\ne\x7f\nf", 3)
	readsNot(t, " a  b \x00 \nc", 1)
	wrong := []string{"", " ", " a", "a ", "a  b", "a\tb", "\x7f"}
	for first := range 20 {
		for i, s := range wrong {
			readsNot(t, strings.Repeat("a b\n", first)+s+"\nc\n"+wrong[(i+1)%len(wrong)]+"\nd", first+1)
		}
	}
}

// agrees tells a fault unless Lines answers as the model does.
func agrees(t *testing.T, s string) {
	t.Helper()
	if want, wrong := model(s); wrong != 0 {
		readsNot(t, s, wrong)
	} else {
		reads(t, s, len(s), want)
	}
	tooLong(t, s, len(s)-1)
}

// P4.1: all short texts of some bytes.
func TestAllShortTexts(t *testing.T) {
	for _, s := range all(7, "a", "b", " ", "\n") {
		agrees(t, s)
	}
	for _, s := range all(5, "!", "~", " ", "\n", "\x7f", "\x1f") {
		agrees(t, s)
	}
	for _, s := range all(4, "ab c", "a\n", "d e\n", " ", "\n", "\x00\n", "x") {
		agrees(t, s)
	}
}

// P4.1: texts that look like chance, and such with one byte changed.
func TestManyTexts(t *testing.T) {
	s := source(1)
	for range 3000 {
		lines := s.someLines()
		whole := text(lines)
		reads(t, whole, len(whole), lines)
		if whole == "" {
			continue
		}
		b := []byte(whole)
		b[s.below(len(b))] = byte(s.below(256))
		agrees(t, string(b))
		agrees(t, whole[:s.below(len(whole))])
		agrees(t, whole[s.below(len(whole)):])
	}
}

// P4.1: long words, long lines, many lines.
func TestGreatTexts(t *testing.T) {
	const many = 100000
	word := strings.Repeat("x", 1<<20)
	reads(t, word+"\n", enough, [][]string{{word}})
	readsNot(t, word, 1)
	readsNot(t, "a\n"+word+"\x00\n", 2)
	words := strings.Split(strings.Repeat("w ", many)+"w", " ")
	reads(t, strings.Repeat("w ", many)+"w\n", enough, [][]string{words})
	readsNot(t, strings.Repeat("w ", many)+"\n", 1)
	l, e, n := scan.Lines(strings.Repeat("l\n", many), 2*many)
	if len(l) != many || e != api.OK || n != 0 {
		t.Errorf("%d lines, error %d, %d", len(l), e, n)
	}
	readsNot(t, strings.Repeat("l\n", many)+"\n", many+1)
	readsNot(t, strings.Repeat(" ", many), 1)
	readsNot(t, strings.Repeat("\n", many), 1)
}
