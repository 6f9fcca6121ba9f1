package plan_test

import (
	"fmt"
	"slices"
	"strconv"
	"strings"
	"testing"

	"halyard/api"
	"halyard/plan"
)

// P17.1, P17.2: each byte as Data, alone and beside others; all of them; none.
func TestBytes(t *testing.T) {
	for b := range 256 {
		c, s := string([]byte{byte(b)}), fmt.Sprintf("%02x", b)
		taken(t, "alone", deeds(put("/f", c)), "plan\nput /f "+s+"\n")
		taken(t, "beside others", deeds(put("/f", "0"+c+"\xff")), "plan\nput /f 30"+s+"ff\n")
	}
	want := ""
	for b := range 256 {
		want += fmt.Sprintf("%02x", b)
	}
	taken(t, "every byte", deeds(put("/f", everyByte())), "plan\nput /f "+want+"\n")
	taken(t, "none", deeds(put("/f", "")), "plan\nput /f -\n")
	taken(t, "the sign of none", deeds(put("/f", "-")), "plan\nput /f 2d\n")
	taken(t, "noughts", deeds(put("/f", "\x00\x00")), "plan\nput /f 0000\n")
	taken(t, "runes", deeds(put("/f", "\u00e9\u20ac")), "plan\nput /f c3a9e282ac\n")
}

// P17.2: texts with lines that are none are refused so, whatever else they are.
func TestNoLines(t *testing.T) {
	for _, s := range []string{
		"plan", "plan\nmkdir /a", "plan\nput /a 41", "mkdir", "x", " ", "\n", "plan\n\n", "\nplan\n", "plan \n", " plan\n", "plan\n mkdir /a\n", "plan\nmkdir  /a\n", "plan\nmkdir /a \n", "plan\nmkdir\t/a\n", "plan\r\n", "plan\nmkdir /a\r\n",
		"plan\nmkdir /a\x00\n", "plan\nput /a \xff\n", "plan\nput /a \u00e9\n", "plan\nput /a \n", "plan\nmkdir /\x7f\n", "plan\x00\n",
		// The lines ahead are those of no plan: this is told behind all lines.
		"go /a\nplan", "plan\nput /a 4\nx", "plan\nput /a AB\n\n", "plan\nmkdir /journal\nmkdir  /b\n", "x y\n\n", "plan\nput /a 00\nput /a 00\n ",
	} {
		notRead(t, s, api.ErrLine)
	}
	whole := text("plan", "unlink /a/f", "rmdir /a", "mkdir /b", "put /b/g 41ff", "put /h -")
	for i := range whole {
		if i == 0 {
			notRead(t, whole[:i], api.ErrPlan)
			continue
		}
		want := api.ErrLine
		if whole[i-1] == '\n' {
			want = api.OK
		}
		if _, e := plan.Parse(whole[:i]); e != want {
			t.Errorf("Parse(%q): error %d, not %d", whole[:i], e, want)
		}
	}
}

// P17.2: the first line is `plan`, and no other one is.
func TestHead(t *testing.T) {
	notRead(t, "", api.ErrPlan)
	for _, s := range []string{"Plan", "PLAN", "plans", "pla", "p", "lock", "project", "plan x", "plan plan", "plan /a", "plan -", "mkdir /a", "put /a 00", "-", "plan:", "nalp"} {
		notRead(t, text(s), api.ErrPlan)
		notRead(t, text(s, "mkdir /b"), api.ErrPlan)
		notRead(t, text(s, "plan"), api.ErrPlan)
		if !strings.HasPrefix(s, "mkdir") && !strings.HasPrefix(s, "put") {
			notRead(t, text("plan", s), api.ErrPlan)
		}
	}
	notRead(t, text("plan", "plan"), api.ErrPlan)
	notRead(t, text("plan", "mkdir /a", "plan"), api.ErrPlan)
	notRead(t, text("plan", "mkdir /a", "plan", "mkdir /b"), api.ErrPlan)
}

// P17.2: a line with a word too few, or one too many.
func TestWordCounts(t *testing.T) {
	for _, s := range []string{
		"unlink", "rmdir", "mkdir", "put", "/a", "-", "00",
		"unlink /a -", "rmdir /a -", "mkdir /a -", "unlink /a 00", "rmdir /a 00", "mkdir /a 00", "unlink /a /b", "rmdir /a /b", "mkdir /a /b", "mkdir mkdir /a", "mkdir /a mkdir",
		"put /a", "put 00", "put -", "put /a 00 00", "put /a - -", "put /a 00 -", "put /a - 00", "put /a /b 00", "put put /a 00", "put /a 00 put", "put /a 0 0",
		"/a mkdir", "/a put 00", "00 /a put", "put 00 /a", "unlink /a - -", "a b c d e f g h",
	} {
		notRead(t, text("plan", s), api.ErrPlan)
		notRead(t, text("plan", "unlink /y", s), api.ErrPlan)
		notRead(t, text("plan", s, "put /z 00"), api.ErrPlan)
	}
}

// P17.2: a word that is none of the four.
func TestOtherWords(t *testing.T) {
	for _, word := range []string{"go", "Unlink", "MKDIR", "Put", "unlin", "unlinks", "rm", "rmdirs", "mkdi", "mkdir:", "puts", "pu", "p", "write", "remove", "rename", "1", "2", "3", "4", "0", "5", "-", "plan", "/a", "unlink,rmdir", "mk-dir", "needs"} {
		for _, behind := range []string{"", " /a", " /a -", " /a 00", " /a 0"} {
			notRead(t, text("plan", word+behind), api.ErrPlan)
			notRead(t, text("plan", "mkdir /z", word+behind, "put /y -"), api.ErrPlan)
		}
	}
}

// P17.2: which words are bytes: an even number of digits, at least two, none of them A to F; or `-` alone.
func TestDigits(t *testing.T) {
	for _, word := range []string{
		"4", "0", "f", "000", "41f", "00000", "AB", "Ab", "aB", "0A", "A0", "41FF", "ffF", "FF", "0g", "g0", "gg", "zz", "0G", "0x41", "x4", "4h", "41,ff", "41-ff", "..", "::", "@@", "``", "/0", "0/",
		"--", "-41", "41-", "-0", "0-", "---", "----", "-00-", "+0", "\"\"", "''", "none", "null", "/a", "a/", "41_ff_", "~~", "!!", "4 1",
	} {
		notRead(t, text("plan", "put /a "+word), api.ErrPlan)
		notRead(t, text("plan", "put /b 00", "put /a "+word, "put /c -"), api.ErrPlan)
	}
	const lower = "0123456789abcdef"
	for b := 33; b <= 126; b++ {
		for _, at := range []int{0, 1, 2, 3} {
			word := []byte("4150")
			word[at] = byte(b)
			s := text("plan", "put /a "+string(word))
			want, e := modelParse(s)
			if may := strings.IndexByte(lower, byte(b)) >= 0; may != (e == api.OK) {
				t.Fatalf("the model: %q, error %d", s, e)
			}
			if got, ge := plan.Parse(s); ge != e || !slices.Equal(got, want) {
				t.Errorf("Parse(%q): %s, error %d, not %s, error %d", s, flat(got), ge, flat(want), e)
			}
		}
	}
}

// P17.2: `-` in the place of a path, and other words that are no path there.
func TestNoPathThere(t *testing.T) {
	for _, path := range badPaths() {
		if path == "" || strings.ContainsAny(path, " \n\t\x00\xff\u00e9") {
			continue
		}
		for _, s := range []string{"unlink " + path, "rmdir " + path, "mkdir " + path, "put " + path + " -", "put " + path + " 00"} {
			notRead(t, text("plan", s), api.ErrPlan)
			notRead(t, text("plan", "unlink /y", s), api.ErrPlan)
		}
	}
	notRead(t, text("plan", "mkdir -"), api.ErrPlan)
	notRead(t, text("plan", "put - -"), api.ErrPlan)
	notRead(t, text("plan", "put - 00"), api.ErrPlan)
}

// P17.2: the text of deeds that are no plan.
func TestTextOfNoPlan(t *testing.T) {
	for _, lines := range [][]string{
		{"mkdir /a", "unlink /b"}, {"put /a -", "mkdir /b"}, {"rmdir /a", "unlink /a"}, {"mkdir /b", "rmdir /a"}, {"put /a -", "unlink /b"}, {"unlink /a", "mkdir /b", "rmdir /c"},
		{"put /a -", "put /a -"}, {"put /a 00", "put /a 01"}, {"unlink /a", "unlink /a"}, {"unlink /a", "rmdir /a"}, {"unlink /a", "put /a -"}, {"rmdir /a", "rmdir /a"}, {"rmdir /a", "mkdir /a"}, {"mkdir /a", "mkdir /a"}, {"mkdir /a", "put /a -"},
		{"unlink /a", "mkdir /a", "put /a -"}, {"unlink /a", "unlink /b", "mkdir /a", "mkdir /a"}, {"unlink /a", "rmdir /a", "mkdir /a", "put /a 00"},
		{"put /journal/x -"}, {"mkdir /journal"}, {"unlink /journal/plan"}, {"rmdir /journal"}, {"mkdir /"},
	} {
		notRead(t, text(append([]string{"plan"}, lines...)...), api.ErrPlan)
	}
	for _, lines := range [][]string{{"unlink /a", "mkdir /a"}, {"rmdir /a", "put /a 00"}, {"mkdir /journals"}, {"put /journal.x -"}, {"unlink /b", "unlink /a"}} {
		if _, e := plan.Parse(text(append([]string{"plan"}, lines...)...)); e != api.OK {
			t.Errorf("%q: error %d", lines, e)
		}
	}
}

// P17.2: all short texts of few lines, held against the model.
func TestAllTexts(t *testing.T) {
	few := []string{"plan", "plan ", "", "unlink /a", "rmdir /a", "mkdir /a", "mkdir /b", "put /a -", "put /a 0a", "put /a 0A", "put /b", "put /a 0", "mkdir /a -", "mkdir /journal", "go /a", "mkdir"}
	plans := 0
	for _, lines := range all(4, few...) {
		for _, s := range []string{text(lines...), strings.TrimSuffix(text(lines...), "\n")} {
			want, e := modelParse(s)
			if e == api.OK {
				plans++
			}
			if got, ge := plan.Parse(s); ge != e || !slices.Equal(got, want) || e != api.OK && got != nil {
				t.Fatalf("Parse(%q): %s, error %d, not %s, error %d", s, flat(got), ge, flat(want), e)
			}
		}
	}
	if plans < 30 {
		t.Error("too few plans:", plans)
	}
}

// P17.2: many texts, of plans and such as are nearly that, held against the model.
func TestManyTexts(t *testing.T) {
	s := source(2)
	told := map[api.Errno]int{}
	for range 20000 {
		near := s.nearText(modelText(s.some()))
		want, e := modelParse(near)
		told[e]++
		if got, ge := plan.Parse(near); ge != e || !slices.Equal(got, want) || e != api.OK && got != nil {
			t.Fatalf("Parse(%q): %s, error %d, not %s, error %d", near, flat(got), ge, flat(want), e)
		}
	}
	if len(told) != 3 || told[api.OK] < 1000 || told[api.ErrLine] < 1000 || told[api.ErrPlan] < 1000 {
		t.Error(told)
	}
}

// P17.2: a text may be of any length, and have any number of lines, be it longer than the texts of other layers may be.
func TestAnyLength(t *testing.T) {
	for _, n := range []int{api.MaxText - 20, api.MaxText, api.MaxText + 1, api.MaxScript, api.MaxScript + 1, 1 << 20, 1 << 23} {
		data := strings.Repeat("x\xff", n/2)
		taken(t, "many bytes", deeds(put("/f", data)), "plan\nput /f "+strings.Repeat("78ff", n/2)+"\n")
		notRead(t, "plan\nput /f "+strings.Repeat("78ff", n/2)+"7\n", api.ErrPlan)
		notRead(t, "plan\nput /f "+strings.Repeat("78ff", n/2), api.ErrLine)
		notRead(t, "plan\nput /f "+strings.Repeat("78ff", n/2)+"FF\n", api.ErrPlan)
		notRead(t, "plan\nput /f "+strings.Repeat("-", n)+"\n", api.ErrPlan)
	}
	for _, n := range []int{api.MaxList + 1, api.MaxPackages + 1, api.MaxSteps + 1, api.MaxText + 1, api.MaxScript + 1, 100000} {
		var l []api.Deed
		var b strings.Builder
		b.WriteString("plan\n")
		for i := range n {
			path := "/d" + strconv.Itoa(i)
			l = append(l, mkdir(path))
			b.WriteString("mkdir " + path + "\n")
		}
		taken(t, "many lines", l, b.String())
		refused(t, "one once more, at last", append(l, mkdir("/d0")))
		notRead(t, b.String()+"mkdir /d0\n", api.ErrPlan)
		notRead(t, b.String()+"\n", api.ErrLine)
	}
}
