package vers_test

import (
	"math"
	"slices"
	"strconv"
	"strings"
	"testing"

	"halyard/api"
	"halyard/vers"
)

// The chapter's table, row by row.
func TestExamplesMay(t *testing.T) {
	for _, c := range []struct {
		v    api.Version
		want bool
	}{{version(1, 2, 3), true}, {version(0, 0, 1000), false}, {version(-1, 0, 0), false}} {
		if got := vers.May(c.v); got != c.want {
			t.Errorf("May(%v): %v", c.v, got)
		}
	}
	for _, c := range []struct {
		a, b api.Version
		want int
	}{
		{version(1, 2, 3), version(1, 10, 0), -1},
		{version(2, 0, 0), version(1, 999, 999), 1},
		{version(0, 0, -5), version(0, 0, -4), -1},
	} {
		if got := vers.Compare(c.a, c.b); got != c.want {
			t.Errorf("Compare(%v, %v): %d, not %d", c.a, c.b, got, c.want)
		}
	}
}

func TestExamplesRank(t *testing.T) {
	for _, c := range []struct {
		v    api.Version
		want int
		ok   bool
	}{{version(0, 0, 7), 7, true}, {version(1, 2, 3), 1002003, true}, {version(0, 0, 1000), 0, false}} {
		if got, ok := vers.Rank(c.v); got != c.want || ok != c.ok {
			t.Errorf("Rank(%v): %d, %v, not %d, %v", c.v, got, ok, c.want, c.ok)
		}
	}
	got, ok := vers.At(1002003)
	gives(t, "At(1002003)", got, ok, version(1, 2, 3))
	got, ok = vers.At(1000000000)
	none(t, "At(1000000000)", got, ok)
	got, ok = vers.At(-1)
	none(t, "At(-1)", got, ok)
}

func TestExamplesBeside(t *testing.T) {
	got, ok := vers.Next(version(1, 2, 999))
	gives(t, "Next(1.2.999)", got, ok, version(1, 3, 0))
	got, ok = vers.Next(version(1, 999, 999))
	gives(t, "Next(1.999.999)", got, ok, version(2, 0, 0))
	got, ok = vers.Next(version(999, 999, 999))
	none(t, "Next(999.999.999)", got, ok)
	got, ok = vers.Prev(version(1, 0, 0))
	gives(t, "Prev(1.0.0)", got, ok, version(0, 999, 999))
	got, ok = vers.Prev(version(0, 0, 0))
	none(t, "Prev(0.0.0)", got, ok)
}

func TestExamplesParse(t *testing.T) {
	got, ok := vers.Parse("1.2.3")
	gives(t, "Parse(1.2.3)", got, ok, version(1, 2, 3))
	for _, s := range []string{"01.2.3", "1.2", "1.2.3.", "1.2.1000", " 1.2.3", "v1.2.3"} {
		parsesNot(t, s)
	}
}

// P2.1: which versions may be.
func TestMay(t *testing.T) {
	for n := range 1000 {
		for _, v := range append(inEachPlace(n, 0), inEachPlace(n, 999)...) {
			if !vers.May(v) {
				t.Errorf("May(%v): false", v)
			}
		}
	}
	for _, v := range someVersions() {
		if !vers.May(v) {
			t.Errorf("May(%v): false", v)
		}
	}
	for _, v := range noVersions() {
		if vers.May(v) {
			t.Errorf("May(%v): true", v)
		}
	}
}

// compares tells a fault unless the lesser version is told to be so, asked both ways.
func compares(t *testing.T, less, greater api.Version) {
	t.Helper()
	if n := vers.Compare(less, greater); n != -1 {
		t.Errorf("Compare(%v, %v): %d, not -1", less, greater, n)
	}
	if n := vers.Compare(greater, less); n != 1 {
		t.Errorf("Compare(%v, %v): %d, not 1", greater, less, n)
	}
}

// P2.1: the order is by Major, then Minor, then Patch, of any numbers.
func TestCompare(t *testing.T) {
	numbers := append(outside(), inside()...)
	slices.Sort(numbers)
	numbers = slices.Compact(numbers)
	for i, low := range numbers {
		for _, high := range numbers[i+1:] {
			for _, same := range []int{0, 5, -1, 1000, math.MinInt, math.MaxInt} {
				compares(t, version(low, same, same), version(high, same, same))
				compares(t, version(same, low, same), version(same, high, same))
				compares(t, version(same, same, low), version(same, same, high))
			}
			// What stands ahead tells, whatever stands behind it.
			compares(t, version(low, high, high), version(high, low, low))
			compares(t, version(low, high, low), version(high, low, high))
			compares(t, version(low, low, high), version(high, high, low))
			compares(t, version(low, low, high), version(low, high, low))
			compares(t, version(high, low, high), version(high, high, low))
		}
	}
}

func TestCompareOrdinary(t *testing.T) {
	rising := []string{"0.0.0", "0.0.1", "0.0.9", "0.0.10", "0.0.999", "0.1.0", "0.2.0", "0.10.0", "0.999.999", "1.0.0", "1.2.3", "1.2.4", "1.3.0", "1.10.0", "2.0.0", "9.0.0", "10.0.0", "100.0.0", "999.999.998", "999.999.999"}
	for i, low := range rising {
		a, ok := vers.Parse(low)
		if !ok {
			t.Fatalf("Parse(%q): false", low)
		}
		for _, high := range rising[i+1:] {
			b, _ := vers.Parse(high)
			compares(t, a, b)
		}
	}
}

func TestCompareSame(t *testing.T) {
	for _, v := range append(noVersions(), someVersions()...) {
		if n := vers.Compare(v, v); n != 0 {
			t.Errorf("Compare(%v, %v): %d", v, v, n)
		}
	}
}

// P2.2: a version's rank is how many versions are less.
func TestRank(t *testing.T) {
	for _, c := range []struct {
		v    api.Version
		want int
	}{
		{first, 0}, {version(0, 0, 1), 1}, {version(0, 0, 999), 999}, {version(0, 1, 0), 1000}, {version(0, 1, 1), 1001},
		{version(0, 999, 0), 999000}, {version(0, 999, 999), 999999}, {version(1, 0, 0), 1000000}, {version(12, 34, 56), 12034056},
		{version(998, 999, 999), 998999999}, {version(999, 0, 0), 999000000}, {version(999, 999, 998), 999999998}, {last, 999999999},
	} {
		if got, ok := vers.Rank(c.v); got != c.want || !ok {
			t.Errorf("Rank(%v): %d, %v, not %d", c.v, got, ok, c.want)
		}
	}
	for _, v := range someVersions() {
		if got, ok := vers.Rank(v); got != count(v) || !ok {
			t.Errorf("Rank(%v): %d, %v, not %d", v, got, ok, count(v))
		}
	}
}

func TestRankOfNone(t *testing.T) {
	for _, v := range noVersions() {
		if n, ok := vers.Rank(v); n != 0 || ok {
			t.Errorf("Rank(%v): %d, %v, not 0, false", v, n, ok)
		}
	}
}

// P2.2: the version at a rank.
func TestAt(t *testing.T) {
	for n, want := range map[int]api.Version{
		0: first, 1: version(0, 0, 1), 999: version(0, 0, 999), 1000: version(0, 1, 0), 999999: version(0, 999, 999), 1000000: version(1, 0, 0),
		1000001: version(1, 0, 1), 1001000: version(1, 1, 0), 12034056: version(12, 34, 56), 999000000: version(999, 0, 0), 999999998: version(999, 999, 998), 999999999: last,
	} {
		got, ok := vers.At(n)
		gives(t, "At("+strconv.Itoa(n)+")", got, ok, want)
	}
	for _, v := range someVersions() {
		got, ok := vers.At(count(v))
		gives(t, "At("+strconv.Itoa(count(v))+")", got, ok, v)
	}
}

func TestAtNone(t *testing.T) {
	noneAt := func(n int) {
		got, ok := vers.At(n)
		none(t, "At("+strconv.Itoa(n)+")", got, ok)
	}
	for n := range 3000 {
		noneAt(-1 - n)
		noneAt(1000000000 + n)
	}
	for _, n := range []int{-1000000, -1000000000, -1000000001, 1001000000, 1999999999, 2000000000, math.MaxInt32, math.MinInt32, math.MaxInt, math.MinInt, math.MaxInt - 1, math.MinInt + 1} {
		noneAt(n)
	}
	for _, bits := range []int{31, 32, 33, 48, 62} {
		if n := 1 << bits; n > 1000000000 {
			noneAt(n)
			noneAt(n + 7)
			noneAt(n + 1002003)
			noneAt(-n)
			noneAt(7 - n)
		}
	}
}

// P2.3: the versions beside one.
func TestNextAndPrev(t *testing.T) {
	for _, c := range []struct{ low, high api.Version }{
		{first, version(0, 0, 1)}, {version(0, 0, 1), version(0, 0, 2)}, {version(0, 0, 998), version(0, 0, 999)}, {version(0, 0, 999), version(0, 1, 0)},
		{version(0, 998, 999), version(0, 999, 0)}, {version(0, 999, 998), version(0, 999, 999)}, {version(0, 999, 999), version(1, 0, 0)},
		{version(1, 2, 3), version(1, 2, 4)}, {version(1, 2, 999), version(1, 3, 0)}, {version(1, 999, 0), version(1, 999, 1)}, {version(1, 999, 999), version(2, 0, 0)},
		{version(5, 0, 999), version(5, 1, 0)}, {version(9, 9, 9), version(9, 9, 10)}, {version(998, 999, 999), version(999, 0, 0)},
		{version(999, 0, 0), version(999, 0, 1)}, {version(999, 0, 999), version(999, 1, 0)}, {version(999, 998, 999), version(999, 999, 0)}, {version(999, 999, 998), last},
	} {
		got, ok := vers.Next(c.low)
		gives(t, "Next("+text(c.low)+")", got, ok, c.high)
		got, ok = vers.Prev(c.high)
		gives(t, "Prev("+text(c.high)+")", got, ok, c.low)
	}
}

func TestBesideTheEdges(t *testing.T) {
	got, ok := vers.Next(last)
	none(t, "Next of the last", got, ok)
	got, ok = vers.Prev(first)
	none(t, "Prev of the first", got, ok)
	got, ok = vers.Next(first)
	gives(t, "Next of the first", got, ok, version(0, 0, 1))
	got, ok = vers.Prev(last)
	gives(t, "Prev of the last", got, ok, version(999, 999, 998))
	got, ok = vers.Prev(version(0, 0, 1))
	gives(t, "Prev(0.0.1)", got, ok, first)
	for _, v := range noVersions() {
		got, ok = vers.Next(v)
		none(t, "Next("+text(v)+")", got, ok)
		got, ok = vers.Prev(v)
		none(t, "Prev("+text(v)+")", got, ok)
	}
}

// P2.4: a version's text.
func TestPrint(t *testing.T) {
	for v, want := range map[api.Version]string{
		first: "0.0.0", last: "999.999.999", version(1, 2, 3): "1.2.3", version(10, 0, 100): "10.0.100", version(0, 0, 7): "0.0.7",
		version(0, 10, 0): "0.10.0", version(100, 20, 3): "100.20.3", version(3, 20, 100): "3.20.100", version(9, 99, 999): "9.99.999",
	} {
		if got := vers.Print(v); got != want {
			t.Errorf("Print(%v): %q, not %q", v, got, want)
		}
	}
	for n := range 1000 {
		for _, v := range append(inEachPlace(n, 0), inEachPlace(n, 42)...) {
			if got := vers.Print(v); got != text(v) {
				t.Errorf("Print(%v): %q, not %q", v, got, text(v))
			}
		}
	}
	for _, v := range noVersions() {
		if got := vers.Print(v); got != "" {
			t.Errorf("Print(%v): %q, not empty", v, got)
		}
	}
}

// P2.4: what has a version's text is that version.
func TestParse(t *testing.T) {
	for s, want := range map[string]api.Version{
		"0.0.0": first, "999.999.999": last, "1.2.3": version(1, 2, 3), "10.0.100": version(10, 0, 100), "0.0.7": version(0, 0, 7),
		"0.10.0": version(0, 10, 0), "100.20.3": version(100, 20, 3), "3.20.100": version(3, 20, 100), "9.99.999": version(9, 99, 999), "0.0.10": version(0, 0, 10),
	} {
		got, ok := vers.Parse(s)
		gives(t, "Parse("+s+")", got, ok, want)
	}
	for n := range 1000 {
		for _, v := range append(inEachPlace(n, 0), inEachPlace(n, 42)...) {
			got, ok := vers.Parse(text(v))
			gives(t, "Parse("+text(v)+")", got, ok, v)
		}
	}
}

// P2.4: parts that no number of a version prints as.
func TestParseWrongParts(t *testing.T) {
	wrong := []string{
		"", "00", "000", "01", "007", "0999", "010", "0000000000000000000000000000001", "00000",
		"-1", "+1", "-0", "+0", "--1", "+-1", "-999", "+999", "-", "+", "1-", "1+",
		" ", " 1", "1 ", "\t1", "1\t", "1\n", "\n1", "1\r", "1 2", "\u00a01", "1\x00", "\x001",
		"1000", "1001", "9999", "10000", "999999", "1000000", "65536", "65537", "2147483647", "2147483648", "4294967295", "4294967296", "4294967297",
		"9223372036854775807", "9223372036854775808", "18446744073709551615", "18446744073709551616", "18446744073709551617", "36893488147419103233",
		"340282366920938463463374607431768211457", strings.Repeat("9", 400), strings.Repeat("0", 400), "1" + strings.Repeat("0", 400), strings.Repeat("0", 400) + "1",
		"a", "A", "x", "*", "^1", "~1", "=1", "v1", "1a", "a1", "0x1", "0b1", "0o7", "1e2", "1e0", "1_0", "1,0", "1/2", "1:", "1;", "'1'", "\"1\"", "1-beta", "1+build",
		"\u0661", "\uff11", "\u00b2", "1\u0301", "\xff", "\xc0\xb1", "1\xff", "NaN", "Inf", "(1)",
	}
	for _, p := range wrong {
		parsesNot(t, p+".2.3")
		parsesNot(t, "1."+p+".3")
		parsesNot(t, "1.2."+p)
		parsesNot(t, p+"."+p+"."+p)
		parsesNot(t, p)
		parsesNot(t, "1.2.3"+p+".4")
	}
	for _, n := range outside() {
		for _, v := range inEachPlace(n, 7) {
			parsesNot(t, text(v))
		}
	}
	for b := range 256 {
		if b < '0' || b > '9' {
			c := string([]byte{byte(b)})
			for _, s := range []string{c + ".2.3", "1." + c + ".3", "1.2." + c, c + "1.2.3", "1.2.3" + c, "1" + c + "2.3", "1.2" + c + "3"} {
				if s != "1.2.3" {
					parsesNot(t, s)
				}
			}
		}
	}
}

// P2.4: a part too few, or too many; points that stand where none may.
func TestParseWrongForm(t *testing.T) {
	for _, s := range []string{
		"", ".", "..", "...", "....", "1", "12", "123", "999", "1.", ".1", "1.2", "1.2.", ".1.2", "1..2", "1..", ".1.", "..1", "1.2..", "..1.2", ".1..2",
		"1..2.3", "1.2..3", ".1.2.3", "1.2.3.", "..1.2.3", "1.2.3..", ".1.2.3.", "1.2.3.4", "0.0.0.0", "1.2.3.4.5", "1.2.3.4.5.6", "1..2..3",
		" 1.2.3", "1.2.3 ", "1.2.3\n", "\n1.2.3", "1 .2.3", "1. 2.3", "1.2 .3", "1.2. 3", "1.2.3 4.5.6", "1.2.3\n4.5.6", "1.2.3\x00",
		"v1.2.3", "V1.2.3", "=1.2.3", "^1.2.3", "~1.2.3", ">=1.2.3", "*", "1.x", "1.2.x", "1.*.*", "1.2.3-1", "1.2.3+1", "1.2.3-alpha", "-1.2.3", "+1.2.3",
		"1,2,3", "1-2-3", "1/2/3", "1:2:3", "1 2 3", "1\u30022\u30023", "1\uff0e2\uff0e3", "\ufeff1.2.3", "latest", "none",
		strings.Repeat("1.", 5000) + "1", strings.Repeat(".", 1<<20), strings.Repeat("1", 1<<20), strings.Repeat("1.", 1<<19), "1.2.3" + strings.Repeat(" ", 1<<20), "1.2." + strings.Repeat("3", 1<<20),
	} {
		parsesNot(t, s)
	}
}

// P2.4: of all short texts of some bytes just those are versions that one prints as.
func TestParseAllShortTexts(t *testing.T) {
	const bytes = "019.-"
	versions := map[string]api.Version{}
	numbers := []int{0, 1, 9, 10, 11, 19, 90, 91, 99, 100, 101, 109, 110, 111, 119, 190, 191, 199, 900, 901, 909, 910, 911, 919, 990, 991, 999}
	for _, a := range numbers {
		for _, b := range numbers {
			for _, c := range numbers {
				versions[text(version(a, b, c))] = version(a, b, c)
			}
		}
	}
	texts := []string{""}
	for len(texts[0]) < 7 {
		var longer []string
		for _, s := range texts {
			for i := range len(bytes) {
				longer = append(longer, s+bytes[i:i+1])
			}
		}
		texts = longer
		for _, s := range texts {
			want, may := versions[s]
			if got, ok := vers.Parse(s); got != want || ok != may {
				t.Errorf("Parse(%q): %v, %v, not %v, %v", s, got, ok, want, may)
			}
		}
	}
}
