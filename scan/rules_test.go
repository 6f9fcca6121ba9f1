package scan_test

import (
	"math"
	"slices"
	"strings"
	"testing"
	"unsafe"

	"halyard/api"
	"halyard/scan"
)

// R1, R2: every call ends and none panics, at all arguments; beside an error all else is zero.
func TestEveryCallEnds(t *testing.T) {
	s := source(4)
	mosts := []int{0, 1, 5, 100, -1, math.MinInt, math.MaxInt}
	for range 30000 {
		var b strings.Builder
		for range s.below(12) {
			b.WriteString([]string{"a", "0", "7", "-", " ", "\n", "word", "9223372036854775807", "\x00", "\xff", "\t", "\u00e9"}[s.below(12)])
		}
		most := mosts[s.below(len(mosts))]
		l, e, n := scan.Lines(b.String(), most)
		switch {
		case e == api.OK && n == 0 && len(b.String()) <= most:
		case e == api.ErrText && n == 0 && len(l) == 0 && len(b.String()) > most:
		case e == api.ErrLine && n > 0 && len(l) == 0 && len(b.String()) <= most:
		default:
			t.Fatalf("Lines(%q, %d): %q, error %d, %d", b.String(), most, l, e, n)
		}
		scan.Name(b.String())
		if n, ok := scan.Number(b.String(), most); !ok && n != 0 || n < 0 || ok && n > most {
			t.Fatalf("Number(%q, %d): %d, %v", b.String(), most, n, ok)
		}
		lines := [][]string{strings.SplitAfter(b.String(), "a"), strings.Split(b.String(), " ")}
		if text, e := scan.Join(lines[:s.below(3)]); e != api.OK && (e != api.ErrLine || text != "") {
			t.Fatalf("Join(%q): %q, error %d", lines, text, e)
		}
	}
}

// roomy is lines in the middle of more memory, at both depths: all of the memory is answered beside them.
func roomy(lines [][]string) (list, memory [][]string) {
	mark := []string{"mark"}
	memory = append(memory, mark)
	for _, words := range lines {
		more := slices.Concat([]string{"ahead"}, words, []string{"behind", "behind"})
		memory = append(memory, more[1:1+len(words)])
	}
	memory = append(memory, mark, mark)
	return memory[1 : 1+len(lines)], memory
}

// whole is lines with the spare room of each.
func whole(lines [][]string) [][]string {
	l := clone(lines)
	for i, words := range lines {
		l[i] = slices.Clone(words[:cap(words)])
	}
	return l
}

// spoil writes over lines and their spare room, at both depths.
func spoil(lines [][]string) {
	lines = lines[:cap(lines)]
	for i, words := range lines {
		words = words[:cap(words)]
		for j := range words {
			words[j] = "spoilt"
		}
		lines[i] = []string{"spoilt"}
	}
}

// R4: the lines that are handed in stay as they are, their spare room too.
func TestHandedInStays(t *testing.T) {
	s := source(5)
	lists := [][][]string{nil, {nil}, {{"a"}, nil}, {{"a", ""}}, {{"a b"}}, {{"a"}, {"b", "\n"}}, {{"\x7f"}}}
	for range 300 {
		lists = append(lists, s.someLines())
	}
	for _, lines := range lists {
		l, memory := roomy(lines)
		want := whole(memory)
		scan.Join(l)
		if !same(whole(memory), want) {
			t.Fatalf("%s: what was handed in is changed", few(lines))
		}
	}
}

// R4: what Lines answers is new memory; no two of its lists share any, their spare room neither.
func TestAnswersAreNew(t *testing.T) {
	s := source(6)
	texts := []string{"a\n", "a b\nc\n", "a b c\nd e f\ng h i\n", "a\na\na\n"}
	for range 300 {
		texts = append(texts, text(s.someLines()))
	}
	for _, text := range texts {
		want, _ := model(text)
		kept, _, _ := scan.Lines(text, enough)
		other, _, _ := scan.Lines(text, enough)
		spoil(other)
		if !same(kept, want) {
			t.Fatalf("Lines(%s) shares memory with the same call", short(text))
		}
		for i := range kept {
			words := kept[i][:cap(kept[i])]
			for j := range words {
				words[j] = "spoilt"
			}
			if !same(kept[i+1:], want[i+1:]) {
				t.Fatalf("Lines(%s): line %d shares memory with one behind it", short(text), i+1)
			}
		}
		reads(t, text, enough, want)
	}
}

// within tells whether a text's bytes stand in another one's memory.
func within(s, memory string) bool {
	at, from := uintptr(unsafe.Pointer(unsafe.StringData(s))), uintptr(unsafe.Pointer(unsafe.StringData(memory)))
	return at >= from && at < from+uintptr(len(memory))
}

// R4: no text of an answer stands in the memory of what was handed in.
func TestTextsAreNew(t *testing.T) {
	s := source(7)
	for range 300 {
		lines := s.someLines()
		given := text(lines)
		read, _, _ := scan.Lines(given, enough)
		for _, w := range slices.Concat(read...) {
			if within(w, given) {
				t.Fatalf("Lines(%s): %q stands in the text", short(given), w)
			}
		}
		written, _ := scan.Join(lines)
		for _, w := range slices.Concat(lines...) {
			if within(w, written) {
				t.Fatalf("Join(%s): %q stands in its text", few(lines), w)
			}
		}
	}
}

// R4: nil and empty lists are one.
func TestNilAndEmpty(t *testing.T) {
	for _, none := range [][][]string{nil, {}, make([][]string, 0, 5)} {
		joins(t, none, "")
	}
	for _, none := range [][]string{nil, {}, make([]string, 0, 5)} {
		joinsNot(t, [][]string{none})
	}
}

// R5: the same is answered again, whatever was asked in between and however much spare room there is.
func TestSameAgain(t *testing.T) {
	s := source(8)
	for range 300 {
		lines := s.someLines()
		want := text(lines)
		joins(t, lines, want)
		reads(t, want, enough, lines)
		joinsNot(t, [][]string{{"x"}, {""}})
		readsNot(t, "x\ny", 2)
		tooLong(t, want, -1)
		room, _ := roomy(lines)
		joins(t, room, want)
		joins(t, clone(lines), want)
		reads(t, want, len(want), lines)
	}
}

// The limits of this layer.
func TestLimits(t *testing.T) {
	if api.MaxName != 16 || api.ErrLine != 22 || api.ErrText != 25 {
		t.Error("limits:", api.MaxName, api.ErrLine, api.ErrText)
	}
}
