package scan_test

import (
	"regexp"
	"slices"
	"strconv"
	"strings"
	"testing"

	"halyard/api"
	"halyard/scan"
)

// enough is more bytes than any text of the tests has.
const enough = 1 << 30

// line is what a line must be, by the tests' own means.
var line = regexp.MustCompile(`^[!-~]+( [!-~]+)*\n$`)

// model is what Lines must answer for a text that is not too long: its lines, or the number of the first that is none, else 0.
func model(text string) ([][]string, int) {
	var l [][]string
	for s := range strings.SplitAfterSeq(text, "\n") {
		if s == "" {
			break // behind the last byte 10 there is nothing
		}
		if !line.MatchString(s) {
			return nil, len(l) + 1
		}
		l = append(l, strings.Split(strings.TrimSuffix(s, "\n"), " "))
	}
	return l, 0
}

// text is lines as they are to be written, whether they may be or not.
func text(lines [][]string) string {
	s := ""
	for _, words := range lines {
		s += strings.Join(words, " ") + "\n"
	}
	return s
}

// all is all texts of at most so many of the pieces.
func all(most int, pieces ...string) []string {
	texts := []string{""}
	longest := texts
	for range most {
		var longer []string
		for _, s := range longest {
			for _, p := range pieces {
				longer = append(longer, s+p)
			}
		}
		texts = append(texts, longer...)
		longest = longer
	}
	return texts
}

// one is the text of one byte.
func one(b int) string { return string([]byte{byte(b)}) }

// wordByte tells of which bytes words are, by their numbers.
func wordByte(b int) bool { return b >= 33 && b <= 126 }

// source is numbers that look like chance, and are the same each time.
type source uint64

func (s *source) below(n int) int {
	*s = *s*6364136223846793005 + 1442695040888963407
	return int(uint64(*s) >> 33 % uint64(n))
}

// someWord is a word that may be.
func (s *source) someWord() string {
	b := make([]byte, 1+s.below([]int{1, 3, 40}[s.below(3)]))
	for i := range b {
		b[i] = byte(33 + s.below(94))
	}
	return string(b)
}

// someLines is lines that may be.
func (s *source) someLines() [][]string {
	l := make([][]string, s.below(6))
	for i := range l {
		for range 1 + s.below([]int{1, 4, 20}[s.below(3)]) {
			l[i] = append(l[i], s.someWord())
		}
	}
	return l
}

func same(a, b [][]string) bool { return slices.EqualFunc(a, b, slices.Equal[[]string]) }

// clone is lines in memory of their own, at both depths.
func clone(lines [][]string) [][]string {
	l := slices.Clone(lines)
	for i := range l {
		l[i] = slices.Clone(l[i])
	}
	return l
}

// short cuts a text that is too long to tell.
func short(s string) string {
	if len(s) > 120 {
		return strconv.Quote(s[:120]) + " and so on"
	}
	return strconv.Quote(s)
}

// few cuts lines that are too many to tell.
func few(lines [][]string) string { return short(text(lines[:min(len(lines), 6)])) }

// reads tells a fault unless a text has just those lines.
func reads(t *testing.T, s string, most int, want [][]string) {
	t.Helper()
	if l, e, n := scan.Lines(s, most); e != api.OK || n != 0 || !same(l, want) {
		t.Errorf("Lines(%s, %d): %d lines %s, error %d, %d, not %d lines %s", short(s), most, len(l), few(l), e, n, len(want), few(want))
	}
}

// readsNot tells a fault unless that line of a text is the first that is none.
func readsNot(t *testing.T, s string, want int) {
	t.Helper()
	if l, e, n := scan.Lines(s, enough); e != api.ErrLine || n != want || len(l) != 0 {
		t.Errorf("Lines(%s): %d lines %s, error %d, %d, not error %d, %d", short(s), len(l), few(l), e, n, api.ErrLine, want)
	}
}

// tooLong tells a fault unless a text has too many bytes.
func tooLong(t *testing.T, s string, most int) {
	t.Helper()
	if l, e, n := scan.Lines(s, most); e != api.ErrText || n != 0 || len(l) != 0 {
		t.Errorf("Lines(%s, %d): %d lines %s, error %d, %d, not error %d, 0", short(s), most, len(l), few(l), e, n, api.ErrText)
	}
}

// joins tells a fault unless lines have that text.
func joins(t *testing.T, lines [][]string, want string) {
	t.Helper()
	if s, e := scan.Join(lines); s != want || e != api.OK {
		t.Errorf("Join(%s): %s, error %d, not %s", few(lines), short(s), e, short(want))
	}
}

// joinsNot tells a fault unless lines have no text.
func joinsNot(t *testing.T, lines [][]string) {
	t.Helper()
	if s, e := scan.Join(lines); s != "" || e != api.ErrLine {
		t.Errorf("Join(%s), %d lines: %s, error %d, not error %d", few(lines), len(lines), short(s), e, api.ErrLine)
	}
}

// named tells a fault unless a name may be just if that is wanted.
func named(t *testing.T, s string, want bool) {
	t.Helper()
	if got := scan.Name(s); got != want {
		t.Errorf("Name(%s): %v", short(s), got)
	}
}

// counts tells a fault unless a text is that number.
func counts(t *testing.T, s string, most, want int) {
	t.Helper()
	if n, ok := scan.Number(s, most); n != want || !ok {
		t.Errorf("Number(%s, %d): %d, %v, not %d", short(s), most, n, ok, want)
	}
}

// countsNot tells a fault unless a text is no number of at most that.
func countsNot(t *testing.T, s string, most int) {
	t.Helper()
	if n, ok := scan.Number(s, most); n != 0 || ok {
		t.Errorf("Number(%s, %d): %d, %v, not 0, false", short(s), most, n, ok)
	}
}
