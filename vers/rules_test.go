package vers_test

import (
	"math"
	"strings"
	"testing"

	"halyard/api"
	"halyard/vers"
)

// told is all that the calls answer about a version, a number, a text.
type told struct {
	may            bool
	compared       int
	rank           int
	ranked         bool
	at, next, prev api.Version
	atOK           bool
	nextOK, prevOK bool
	printed        string
	parsed         api.Version
	parsedOK       bool
}

func tell(v, other api.Version, n int, s string) told {
	var x told
	x.may = vers.May(v)
	x.compared = vers.Compare(v, other)
	x.rank, x.ranked = vers.Rank(v)
	x.at, x.atOK = vers.At(n)
	x.next, x.nextOK = vers.Next(v)
	x.prev, x.prevOK = vers.Prev(v)
	x.printed = vers.Print(v)
	x.parsed, x.parsedOK = vers.Parse(s)
	return x
}

// R1, R6: every call ends and none panics, at all numbers and texts; a false has zero values beside it, and is told just where it must be.
func TestEveryCallEnds(t *testing.T) {
	numbers := append(outside(), 0, 1, 999)
	texts := []string{"", "1.2.3", ".", "\x00", "1.2.\xff", strings.Repeat("1.2.3", 1<<10), strings.Repeat("\xff", 1<<16)}
	for i, a := range numbers {
		for _, b := range numbers {
			for _, c := range numbers {
				v := version(a, b, c)
				x := tell(v, version(c, b, a), a, texts[i%len(texts)])
				may := a >= 0 && a <= 999 && b >= 0 && b <= 999 && c >= 0 && c <= 999
				if x.may != may || x.ranked != may || (x.printed != "") != may || x.nextOK != (may && v != last) || x.prevOK != (may && v != first) {
					t.Fatalf("%v: %+v", v, x)
				}
				if !x.ranked && x.rank != 0 || !x.nextOK && x.next != zero || !x.prevOK && x.prev != zero || !x.atOK && x.at != zero || !x.parsedOK && x.parsed != zero {
					t.Fatalf("%v: beside a false: %+v", v, x)
				}
			}
		}
	}
}

// R5: what is answered hangs on the arguments alone, not on what was asked before.
func TestSameAgain(t *testing.T) {
	ask := func() []told {
		return []told{
			tell(version(1, 2, 3), version(1, 2, 4), 1002003, "1.2.3"),
			tell(version(1000, 2, 3), version(1, 2, 4), -1, "1.2"),
			tell(last, first, 999999999, "999.999.999"),
			tell(first, last, 1000000000, "0.0.1000"),
			tell(version(math.MinInt, math.MaxInt, 0), version(math.MaxInt, 0, 0), math.MinInt, ""),
		}
	}
	want := ask()
	for range 20 {
		for i, x := range ask() {
			if x != want[i] {
				t.Errorf("%+v, and before %+v", x, want[i])
			}
		}
	}
}

// R4: a text that was answered stays as it is, and so does one that was handed in.
func TestTextsAreOwn(t *testing.T) {
	texts := map[api.Version]string{}
	for _, v := range someVersions() {
		texts[v] = vers.Print(v)
	}
	for v, s := range texts {
		if s != text(v) {
			t.Errorf("the text of %v is %q now", v, s)
		}
	}
	buffer := []byte("1.2.3")
	v, ok := vers.Parse(string(buffer))
	copy(buffer, "9.9.9")
	gives(t, "Parse(1.2.3)", v, ok, version(1, 2, 3))
}

// The limit of this layer.
func TestLimit(t *testing.T) {
	if api.MaxPart != 999 {
		t.Error("MaxPart:", api.MaxPart)
	}
}
