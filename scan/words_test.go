package scan_test

import (
	"math"
	"strconv"
	"strings"
	"testing"
)

// The chapter's table: Name and Number.
func TestExamplesName(t *testing.T) {
	named(t, "a", true)
	named(t, "a-1", true)
	named(t, "1a", false)
	named(t, "A", false)
	named(t, "abcdefghijklmnopq", false)
}

func TestExamplesNumber(t *testing.T) {
	counts(t, "12", 20, 12)
	counts(t, "0", 0, 0)
	countsNot(t, "21", 20)
	countsNot(t, "012", 20)
	countsNot(t, "", 20)
	countsNot(t, "-1", 20)
	countsNot(t, "0", -1)
}

// P4.3: ordinary names, and such as are none.
func TestName(t *testing.T) {
	for _, s := range []string{"a", "z", "ab", "left-pad", "x1", "x-", "x--", "x-1-y", "a0123456789", "zz9", "modules", "package", "abcdefghijklmnop"} {
		named(t, s, true)
	}
	for _, s := range []string{"", "-", "-a", "0", "9a", "a b", " a", "a ", "a\n", "A", "aB", "a_b", "a.b", "a/b", "a+", "@a", "\u00e4", "a\u00e4", "\uff41", "a\u0661", "a\x00", "\x00", "a\xff", "a\u2010b"} {
		named(t, s, false)
	}
}

// P4.3: a name has 1 to 16 bytes.
func TestNameSizes(t *testing.T) {
	for n := range 40 {
		for _, rest := range []string{"a", "z", "0", "9", "-"} {
			named(t, "a"+strings.Repeat(rest, n), n < 16)
		}
		named(t, strings.Repeat("z", n), 1 <= n && n <= 16)
		named(t, strings.Repeat("-", n), false)
		named(t, strings.Repeat("0", n), false)
	}
	named(t, "", false)
	named(t, "a"+strings.Repeat("-", 15), true)
	named(t, "a"+strings.Repeat("-", 16), false)
	named(t, strings.Repeat("a", 1<<20), false)
	named(t, strings.Repeat("\u00e4", 8), false)
}

// P4.3: each byte first, and behind.
func TestNameEachByte(t *testing.T) {
	for b := range 256 {
		c := one(b)
		letter := b >= 97 && b <= 122
		other := letter || b >= 48 && b <= 57 || b == 45
		named(t, c, letter)
		named(t, c+"a", letter)
		named(t, c+"aaaaaaaaaaaaaaa", letter)
		named(t, c+"aaaaaaaaaaaaaaaa", false)
		named(t, "a"+c, other)
		named(t, "a"+c+"a", other)
		named(t, "aa-"+c+"0", other)
		named(t, "aaaaaaaaaaaaaaa"+c, other)
		named(t, "aaaaaaaaaaaaaaaa"+c, false)
	}
}

// P4.3: numbers from 0 to most, and what is beyond.
func TestNumber(t *testing.T) {
	for n := range 3000 {
		s := strconv.Itoa(n)
		for _, most := range []int{n, n + 1, 5000, math.MaxInt32, math.MaxInt} {
			counts(t, s, most, n)
		}
		for _, most := range []int{n - 1, n - 2, -1, -n - 1, math.MinInt32, math.MinInt} {
			countsNot(t, s, most)
		}
	}
	for _, n := range []int{4096, 65535, 65536, 1048576, 123456789, 1000000000, math.MaxInt32, math.MaxInt - 1, math.MaxInt} {
		counts(t, strconv.Itoa(n), n, n)
		counts(t, strconv.Itoa(n), math.MaxInt, n)
		countsNot(t, strconv.Itoa(n), n-1)
	}
}

// P4.3: 0 is `0`, and at most a number that is 0 or more.
func TestNumberNought(t *testing.T) {
	for _, most := range []int{0, 1, 20, math.MaxInt} {
		counts(t, "0", most, 0)
	}
	for _, most := range []int{-1, -2, -20, math.MinInt + 1, math.MinInt} {
		countsNot(t, "0", most)
		countsNot(t, "1", most)
		countsNot(t, "-1", most)
		countsNot(t, strconv.Itoa(most), most)
	}
	countsNot(t, "1", 0)
	countsNot(t, "00", 0)
	countsNot(t, "-0", 0)
	countsNot(t, "+0", 0)
}

// P4.3: the greatest number, one more, and digits that are too many for any number.
func TestNumberGreat(t *testing.T) {
	great := strconv.Itoa(math.MaxInt)
	counts(t, great, math.MaxInt, math.MaxInt)
	countsNot(t, great, math.MaxInt-1)
	for _, s := range []string{
		strconv.FormatUint(math.MaxInt+1, 10), strconv.FormatUint(math.MaxInt+2, 10), strconv.FormatUint(math.MaxUint, 10), great + "0", "1" + great,
		"9223372036854775808", "9223372036854775809", "18446744073709551615", "18446744073709551616", "18446744073709551617", "18446744073709551636", "36893488147419103233", "340282366920938463463374607431768211457",
		"99999999999999999999", "10000000000000000000", strings.Repeat("9", 400), "1" + strings.Repeat("0", 400), strings.Repeat("1", 1<<20),
	} {
		for _, most := range []int{math.MaxInt, 20, 0, -1, math.MinInt} {
			countsNot(t, s, most)
		}
	}
}

// P4.3: what is no number: noughts ahead, signs, other bytes.
func TestNumberWrong(t *testing.T) {
	for _, s := range []string{
		"", "00", "000", "01", "007", "012", "00000", strings.Repeat("0", 400), strings.Repeat("0", 400) + "1",
		"-1", "+1", "-0", "+0", "--1", "+-1", "-", "+", "1-", "1+", "-12", "+12", strconv.Itoa(math.MinInt), "+" + strconv.Itoa(math.MaxInt),
		" ", " 1", "1 ", "1 2", "\t1", "1\n", "\n1", "1\r", "1\x00", "\x001", "\u00a01",
		"a", "x", "1a", "a1", "0x1", "0b1", "0o7", "1e2", "1e0", "1_0", "1_000", "1,0", "1.0", "1.", ".1", "1/2", "1:", "'1'", "\u0661", "\uff11", "\u00b2", "1\u0301", "\xff", "\xc0\xb1", "NaN", "Inf",
	} {
		for _, most := range []int{math.MaxInt, 5000, 0, -1} {
			countsNot(t, s, most)
		}
	}
}

// P4.3: each byte as a digit, and beside one.
func TestNumberEachByte(t *testing.T) {
	for b := range 256 {
		c, digit := one(b), b-48
		if digit < 0 || digit > 9 {
			for _, s := range []string{c, c + "1", "1" + c, "1" + c + "1", c + c} {
				countsNot(t, s, math.MaxInt)
			}
			continue
		}
		counts(t, c, 9, digit)
		counts(t, "1"+c, 19, 10+digit)
		counts(t, "1"+c+"1", 191, 101+10*digit)
		if digit > 0 {
			counts(t, c+"1", 91, 10*digit+1)
		} else {
			countsNot(t, c+"1", 91)
		}
	}
}

// P4.3: of all short texts just those are numbers as which one is written.
func TestNumberAllShortTexts(t *testing.T) {
	written := map[string]int{}
	for n := range 1000 {
		written[strconv.Itoa(n)] = n
	}
	for _, s := range all(3, "0", "1", "2", "3", "4", "5", "6", "7", "8", "9", "-", "+", "_", "x", " ") {
		if n, ok := written[s]; ok {
			counts(t, s, 999, n)
			countsNot(t, s, n-1)
		} else {
			countsNot(t, s, 999)
		}
	}
}
