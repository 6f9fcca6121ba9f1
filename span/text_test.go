package span_test

import (
	"maps"
	"strings"
	"testing"

	"halyard/api"
	"halyard/span"
)

// The chapter's table: Parse and Print.
func TestExamplesParse(t *testing.T) {
	parses(t, "^1.2.3", spans("1.2.3 to 1.999.999"))
	parses(t, "^0.2.3", spans("0.2.3 to 0.2.999"))
	parses(t, "^0.0.3", spans("0.0.3"))
	parses(t, "~1.2.3", spans("1.2.3 to 1.2.999"))
	parses(t, ">=1.0.0 <2.0.0", spans("1.0.0 to 1.999.999"))
	parses(t, "1.0.0 || =1.0.1", spans("1.0.0 to 1.0.1"))
	parses(t, ">1.0.0 <1.0.1", nil)
	for _, s := range []string{"", "> 1.0.0", "1.0.0||", "1.0", "^*", "1.0.0,2.0.0"} {
		parsesNot(t, s)
	}
}

// prints tells a fault unless a range has that text.
func prints(t *testing.T, l []api.Span, want string) {
	t.Helper()
	if got := span.Print(l); got != want {
		t.Errorf("Print(%v): %q, not %q", few(l), got, want)
	}
}

func TestExamplesPrint(t *testing.T) {
	prints(t, spans("1.0.0 to 1.999.999"), ">=1.0.0 <=1.999.999")
	prints(t, spans("2.0.0"), "2.0.0")
	prints(t, spans("0.0.0 to 1.0.0"), "<=1.0.0")
	prints(t, spans("3.0.0 to 999.999.999"), ">=3.0.0")
	prints(t, nil, "<0.0.0")
	prints(t, span.All(), "*")
	prints(t, spans("1.0.0", "3.0.0 to 3.0.1"), "1.0.0 || >=3.0.0 <=3.0.1")
}

// P3.3: each sign, with ordinary versions and at the first and the last one.
func TestSigns(t *testing.T) {
	for s, want := range map[string][]api.Span{
		"*": span.All(),

		"1.2.3": spans("1.2.3"), "0.0.0": spans("0.0.0"), "999.999.999": spans("999.999.999"),
		"=1.2.3": spans("1.2.3"), "=0.0.0": spans("0.0.0"), "=999.999.999": spans("999.999.999"),

		"<1.2.3": spans("0.0.0 to 1.2.2"), "<1.0.0": spans("0.0.0 to 0.999.999"), "<0.0.1": spans("0.0.0"), "<0.0.0": nil, "<999.999.999": spans("0.0.0 to 999.999.998"),
		"<=1.2.3": spans("0.0.0 to 1.2.3"), "<=0.0.1": spans("0.0.0 to 0.0.1"), "<=0.0.0": spans("0.0.0"), "<=999.999.999": span.All(), "<=999.999.998": spans("0.0.0 to 999.999.998"),
		">1.2.3": spans("1.2.4 to 999.999.999"), ">1.999.999": spans("2.0.0 to 999.999.999"), ">0.0.0": spans("0.0.1 to 999.999.999"), ">999.999.998": spans("999.999.999"), ">999.999.999": nil,
		">=1.2.3": spans("1.2.3 to 999.999.999"), ">=0.0.0": span.All(), ">=0.0.1": spans("0.0.1 to 999.999.999"), ">=999.999.999": spans("999.999.999"),

		"^1.2.3": spans("1.2.3 to 1.999.999"), "^1.0.0": spans("1.0.0 to 1.999.999"), "^1.0.5": spans("1.0.5 to 1.999.999"), "^12.0.0": spans("12.0.0 to 12.999.999"), "^1.999.999": spans("1.999.999"),
		"^999.0.0": spans("999.0.0 to 999.999.999"), "^999.999.999": spans("999.999.999"),
		"^0.1.0": spans("0.1.0 to 0.1.999"), "^0.1.5": spans("0.1.5 to 0.1.999"), "^0.999.0": spans("0.999.0 to 0.999.999"), "^0.999.999": spans("0.999.999"),
		"^0.0.0": spans("0.0.0"), "^0.0.1": spans("0.0.1"), "^0.0.999": spans("0.0.999"),

		"~1.2.3": spans("1.2.3 to 1.2.999"), "~1.0.0": spans("1.0.0 to 1.0.999"), "~0.2.3": spans("0.2.3 to 0.2.999"), "~0.0.3": spans("0.0.3 to 0.0.999"), "~0.0.0": spans("0.0.0 to 0.0.999"),
		"~1.2.999": spans("1.2.999"), "~999.999.0": spans("999.999.0 to 999.999.999"), "~999.999.999": spans("999.999.999"),
	} {
		parses(t, s, want)
		parses(t, "  "+s+" ", want)
		parses(t, s+" * ", want)
		parses(t, "* "+s, want)
		parses(t, s+"||"+s, want)
	}
}

// P3.3: an alternative has what all its words have.
func TestWords(t *testing.T) {
	for s, want := range map[string][]api.Span{
		">=1.0.0 <=2.0.0":              spans("1.0.0 to 2.0.0"),
		"<=2.0.0 >=1.0.0":              spans("1.0.0 to 2.0.0"),
		">=1.0.0     <2.0.0":           spans("1.0.0 to 1.999.999"),
		"   >=1.0.0 <2.0.0   ":         spans("1.0.0 to 1.999.999"),
		"* *":                          span.All(),
		"* * 1.0.0 * *":                spans("1.0.0"),
		"1.0.0 1.0.0":                  spans("1.0.0"),
		"1.0.0 =1.0.0 ^1.0.0 ~1.0.0":   spans("1.0.0"),
		"1.0.0 1.0.1":                  nil,
		">2.0.0 <1.0.0":                nil,
		"<1.0.0 >=1.0.0":               nil,
		"<0.0.0 *":                     nil,
		"* >999.999.999":               nil,
		"^1.2.0 ~1.5.0":                spans("1.5.0 to 1.5.999"),
		">=1.0.0 <3.0.0 >1.5.0 <2.0.0": spans("1.5.1 to 1.999.999"),
		">1.0.0 <1.0.2":                spans("1.0.1"),
		"^1.0.0 ^2.0.0":                nil,
		"<=1.0.0 >=1.0.0":              spans("1.0.0"),
	} {
		parses(t, s, want)
	}
}

// P3.3: a range has what one of its alternatives has, in whatever order they stand.
func TestAlternatives(t *testing.T) {
	for s, want := range map[string][]api.Span{
		"1.0.0||3.0.0":                   spans("1.0.0", "3.0.0"),
		"3.0.0||1.0.0":                   spans("1.0.0", "3.0.0"),
		"3.0.0 || 1.0.0 || 2.0.0":        spans("1.0.0", "2.0.0", "3.0.0"),
		"  3.0.0  ||  1.0.0  ":           spans("1.0.0", "3.0.0"),
		"1.0.1 || 1.0.0":                 spans("1.0.0 to 1.0.1"),
		"1.0.0 || 1.0.2 || 1.0.1":        spans("1.0.0 to 1.0.2"),
		"1.0.0||1.0.0||1.0.0":            spans("1.0.0"),
		"*||1.0.0":                       span.All(),
		"1.0.0||*":                       span.All(),
		"<1.0.0||>=1.0.0":                span.All(),
		"<1.0.0 || >1.0.0":               spans("0.0.0 to 0.999.999", "1.0.1 to 999.999.999"),
		"<0.0.0||>999.999.999":           nil,
		"<0.0.0||1.0.0":                  spans("1.0.0"),
		"1.0.0||<0.0.0":                  spans("1.0.0"),
		"1.0.0 2.0.0 || 3.0.0":           spans("3.0.0"),
		">=1.0.0 <2.0.0||>=3.0.0 <4.0.0": spans("1.0.0 to 1.999.999", "3.0.0 to 3.999.999"),
		"^1.0.0 || ^2.0.0":               spans("1.0.0 to 2.999.999"),
		"^1.0.0 || ^3.0.0":               spans("1.0.0 to 1.999.999", "3.0.0 to 3.999.999"),
		"^1.0.0 || ~1.5.0 || >=1.9.0":    spans("1.0.0 to 999.999.999"),
		"0.0.0 || 999.999.999":           spans("0.0.0", "999.999.999"),
	} {
		parses(t, s, want)
	}
}

// P3.3: no word, where one must stand.
func TestNoWord(t *testing.T) {
	for _, s := range []string{
		"", " ", "  ", strings.Repeat(" ", 4096), "||", " || ", "||||", "|| ||", "1.0.0||", "1.0.0 ||", "1.0.0 || ", "||1.0.0", " ||1.0.0", "|| 1.0.0", " || *", "* || ",
		"1.0.0||||2.0.0", "1.0.0 || || 2.0.0", "1.0.0 |||| 2.0.0", "1.0.0||  ||2.0.0", "||1.0.0||", "1.0.0||2.0.0||", "||1.0.0||2.0.0",
	} {
		parsesNot(t, s)
	}
}

// P3.3: words that are none, alone, among others and in the last alternative.
func TestNoSuchWord(t *testing.T) {
	wrong := []string{
		"1", "1.0", "1.0.", ".1.0.0", "1..0", "1.0.0.0", "1.0.1000", "1000.0.0", "01.0.0", "1.00.0", "1.0.-1", "-1.0.0", "+1.0.0", "v1.0.0", "1.x", "1.0.x", "1.*", "1.0.*", "x", "X", "a", "latest", "1.0.0-beta", "1.0.0+1",
		"<", ">", "=", "<=", ">=", "^", "~", "^*", "~*", "=*", "<*", "<=*", ">*", ">=*", "**", "*1.0.0", "1.0.0*", "*<1.0.0", "***",
		"==1.0.0", "=<1.0.0", "=>1.0.0", "<<1.0.0", ">>1.0.0", "<>1.0.0", "><1.0.0", "<==1.0.0", ">==1.0.0", "<<=1.0.0", "=^1.0.0", "^=1.0.0", "~=1.0.0", "=~1.0.0", "^^1.0.0", "~~1.0.0", "^~1.0.0", "~^1.0.0", "~>1.0.0", "^>=1.0.0", ">^1.0.0", "!=1.0.0", "!1.0.0",
		"1.0.0=", "1.0.0<", "1.0.0>", "1.0.0^", "1.0.0~", "1.0.0<2.0.0", ">=1.0.0<2.0.0", "1.0.01.0.0", "^1.0.0^2.0.0", "1.0.0,2.0.0", "1.0.0,", ",", "1.0.0;2.0.0", "1.0.0-2.0.0", "(1.0.0)", "[1.0.0", "\"1.0.0\"", "'1.0.0'",
		"^1", "^1.0", "^1.2.1000", "~1.2", ">=1", "<1000.0.0", ">999.999.1000", "=01.0.0", "^v1.0.0", "^-1.0.0", "<.1.0.0", "^1.0.0.",
		"|", "1.0.0|", "|1.0.0", "1.0.0|2.0.0", "&", "&&", "1.0.0&&2.0.0", "or", "-", "1.0.0\\", "\\|", "1.0.0\x00", "\x001.0.0", "\xff", "\u00a01.0.0", "\uff1c1.0.0", "\u22641.0.0", "\u0661.0.0",
		"\t", "\n", "1.0.0\t", "\t1.0.0", "1.0.0\n", "\n1.0.0", "1.0.0\r", "1.0.0\t2.0.0", "1.0.0\n2.0.0", "1.0.0\v2.0.0", ">\t1.0.0", "||\t", "1.0.0\u00a02.0.0",
	}
	for _, w := range wrong {
		for _, s := range []string{w, " " + w + " ", "1.0.0 " + w, w + " 1.0.0", "* " + w + " *", "<0.0.0 " + w, "* || " + w, w + " || *", "1.0.0||" + w + "||2.0.0", "<0.0.0||" + w} {
			parsesNot(t, s)
		}
	}
}

// P3.3: a sign apart from its version.
func TestSignApart(t *testing.T) {
	for _, sign := range []string{"=", "<", "<=", ">", ">=", "^", "~"} {
		for _, s := range []string{sign + " 1.0.0", sign + "  1.0.0", " " + sign + " 1.0.0 ", sign + "||1.0.0", sign + " *", "1.0.0 " + sign, sign} {
			parsesNot(t, s)
		}
	}
	for _, s := range []string{"> =1.0.0", "< =1.0.0", ">= 1.0.0 <2.0.0", ">=1.0.0 < 2.0.0", "^ 1. 0.0", "^1. 0.0", "^1 .0.0", "1.0. 0"} {
		parsesNot(t, s)
	}
}

// P3.3: `||` is two bytes, side by side.
func TestBars(t *testing.T) {
	for _, s := range []string{"1.0.0 | 2.0.0", "1.0.0|2.0.0", "1.0.0 | | 2.0.0", "1.0.0| |2.0.0", "1.0.0|||2.0.0", "1.0.0 ||| 2.0.0", "1.0.0 || | 2.0.0", "1.0.0 | || 2.0.0", "|1.0.0", "1.0.0|", "|||"} {
		parsesNot(t, s)
	}
}

// P3.3: any one byte that stands where it may not.
func TestParseEachByte(t *testing.T) {
	for b := range 256 {
		c := string([]byte{byte(b)})
		blank, sign := c == " ", strings.Contains("=<>^~", c)
		if !blank {
			parsesNot(t, "1.0.0"+c)
			parsesNot(t, "1.0.0"+c+"2.0.0")
		}
		if !blank && !sign {
			parsesNot(t, c+"a.0.0")
			parsesNot(t, c+c+"1.0.0"+c)
			parsesNot(t, "^"+c+"1.0.0"+c)
		}
		if c != "*" {
			parsesNot(t, c)
			parsesNot(t, "1.0.0 ||"+c)
		}
	}
}

// meant is texts, as numbers of pieces that they are made of, with what they mean: bits of blocks.
type meant []map[string]int

// add notes a text of so many pieces, if that is not too many.
func (m meant) add(pieces int, s string, bits int) {
	if pieces < len(m) {
		m[pieces][s] = bits
	}
}

func newMeant(pieces int) meant {
	m := make(meant, pieces+1)
	for i := range m {
		m[i] = map[string]int{}
	}
	return m
}

// grammar is all texts of ranges of at most so many pieces, whose only version is 1.0.0.
func grammar(pieces int) meant {
	const below, one, minor, major, above = 1, 2, 4, 8, 16
	words, alternatives, texts := newMeant(pieces), newMeant(pieces), newMeant(pieces)
	words.add(1, "*", below|one|minor|major|above)
	words.add(1, "1.0.0", one)
	words.add(2, "=1.0.0", one)
	words.add(2, "<1.0.0", below)
	words.add(2, ">1.0.0", minor|major|above)
	words.add(3, "<=1.0.0", below|one)
	words.add(3, ">=1.0.0", one|minor|major|above)
	words.add(2, "^1.0.0", one|minor|major)
	words.add(2, "~1.0.0", one|minor)
	for n := range pieces + 1 {
		maps.Copy(alternatives[n], words[n])
		for s, bits := range alternatives[n] {
			alternatives.add(n+1, " "+s, bits)
			alternatives.add(n+1, s+" ", bits)
			for k := range words {
				for w, more := range words[k] {
					alternatives.add(n+k+1, s+" "+w, bits&more)
				}
			}
		}
	}
	for n := range pieces + 1 {
		maps.Copy(texts[n], alternatives[n])
		for s, bits := range texts[n] {
			for k := range alternatives {
				for a, more := range alternatives[k] {
					texts.add(n+k+1, s+"||"+a, bits|more)
				}
			}
		}
	}
	return texts
}

// P3.3: of all texts of at most five pieces just those are ranges that the chapter's words make.
func TestParseAllShortTexts(t *testing.T) {
	const most = 5
	cuts := spans("0.0.0 to 0.999.999", "1.0.0", "1.0.1 to 1.0.999", "1.1.0 to 1.999.999", "2.0.0 to 999.999.999")
	known := map[string]int{}
	for _, m := range grammar(most) {
		maps.Copy(known, m)
	}
	texts := []string{""}
	for range most {
		var longer []string
		for _, s := range texts {
			for _, piece := range []string{"*", "1.0.0", " ", "||", "|", "<", ">", "=", "^", "~"} {
				longer = append(longer, s+piece)
			}
		}
		texts = longer
		for _, s := range texts {
			if bits, ok := known[s]; ok {
				parses(t, s, some(cuts, bits))
			} else {
				parsesNot(t, s)
			}
		}
	}
}

// P3.3: texts of 4096 bytes, and of more.
func TestLongTexts(t *testing.T) {
	pad := func(s string, size int) string { return s + strings.Repeat(" ", size-len(s)) }
	want := spans("1.0.0 to 1.999.999", "3.0.0")
	for _, size := range []int{100, 4095, 4096} {
		parses(t, pad("^1.0.0 || 3.0.0", size), want)
		parses(t, strings.Repeat(" ", size-6)+"^1.0.0", want[:1])
		parses(t, "^1.0.0"+strings.Repeat(" ", size-12)+"<9.0.0", want[:1])
	}
	for _, size := range []int{4097, 4098, 5000, 8192, 65536, 1 << 20} {
		parsesNot(t, pad("^1.0.0 || 3.0.0", size))
		parsesNot(t, strings.Repeat(" ", size-6)+"^1.0.0")
		parsesNot(t, pad(singles(65), size))
		parsesNot(t, pad("wrong", size))
		parsesNot(t, strings.Repeat("*||", size/3)+strings.Repeat(" ", size%3)+"*")
	}
	parses(t, strings.Repeat("*||", 1365)+"*", span.All())
	parses(t, strings.Repeat("* ", 2048), span.All())
	parses(t, strings.Repeat("1.0.0||", 584)+"1.0.0", spans("1.0.0"))
	parses(t, strings.Repeat("1.0.0 ", 682), spans("1.0.0"))
}

// singles is the text of so many single versions, no two of which touch.
func singles(count int) string {
	var texts []string
	for i := range count {
		texts = append(texts, text(at(i*2)))
	}
	return strings.Join(texts, "||")
}

// P3.3: a range of 64 spans in a text, and one of more: it is the range that is counted, not its alternatives.
func TestParseMany(t *testing.T) {
	full := func(s string) {
		t.Helper()
		got, e := span.Parse(s)
		refuses(t, "Parse("+short(s)+")", got, e, api.ErrFull)
	}
	parses(t, singles(63), every(63, 0, 2, 1))
	parses(t, singles(64), every(64, 0, 2, 1))
	parses(t, singles(64)+"||0.0.0||0.0.126", every(64, 0, 2, 1))
	parses(t, singles(64)+" || <0.0.0", every(64, 0, 2, 1))
	parses(t, singles(64)+" || 0.0.1", append(every(1, 0, 1, 3), every(62, 4, 2, 1)...))
	full(singles(65))
	full(singles(64) + " || 999.999.999")
	full("999.999.999||" + singles(64))
	full(singles(200))
	full(singles(400) + "||2.0.0")
	parses(t, singles(65)+"||*", span.All())
	parses(t, "*||"+singles(65), span.All())
	parses(t, singles(300)+" || <1.0.0", spans("0.0.0 to 0.999.999"))
	parses(t, singles(65)+" || 0.0.1", append(every(1, 0, 1, 3), every(63, 4, 2, 1)...))
	for _, s := range []string{singles(65) + "||", singles(65) + "||1.0", "||" + singles(65), singles(65) + "||> 1.0.0", singles(200) + "|"} {
		parsesNot(t, s)
	}
}

// P3.4: a range's text.
func TestPrint(t *testing.T) {
	prints(t, []api.Span{}, "<0.0.0")
	prints(t, make([]api.Span, 0, 9), "<0.0.0")
	prints(t, spans("0.0.0"), "0.0.0")
	prints(t, spans("999.999.999"), "999.999.999")
	prints(t, spans("0.0.0 to 0.0.1"), "<=0.0.1")
	prints(t, spans("0.0.1 to 0.0.2"), ">=0.0.1 <=0.0.2")
	prints(t, spans("0.0.0 to 999.999.998"), "<=999.999.998")
	prints(t, spans("0.0.1 to 999.999.999"), ">=0.0.1")
	prints(t, spans("0.0.1 to 999.999.998"), ">=0.0.1 <=999.999.998")
	prints(t, spans("999.999.998 to 999.999.999"), ">=999.999.998")
	prints(t, spans("1.2.3 to 1.2.3"), "1.2.3")
	prints(t, spans("10.20.30 to 100.200.300"), ">=10.20.30 <=100.200.300")
	prints(t, spans("0.0.0", "999.999.999"), "0.0.0 || 999.999.999")
	prints(t, spans("0.0.0 to 0.999.999", "1.0.1 to 999.999.999"), "<=0.999.999 || >=1.0.1")
	prints(t, spans("0.0.0 to 1.0.0", "2.0.0", "3.0.0 to 4.0.0", "5.0.0 to 999.999.999"), "<=1.0.0 || 2.0.0 || >=3.0.0 <=4.0.0 || >=5.0.0")
	prints(t, spans("1.0.0", "1.0.2", "1.0.4"), "1.0.0 || 1.0.2 || 1.0.4")
	prints(t, every(64, 0, 2, 1), strings.ReplaceAll(singles(64), "||", " || "))
}

// P3.4: what may not be has no text.
func TestPrintOfWhatMayNotBe(t *testing.T) {
	for what, l := range mayNot() {
		if got := span.Print(l); got != "" {
			t.Errorf("Print of %s: %s", what, short(got))
		}
	}
}
