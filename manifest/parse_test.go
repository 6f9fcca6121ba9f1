package manifest_test

import (
	"strconv"
	"strings"
	"testing"

	"halyard/api"
	"halyard/manifest"
)

const head = "project\n"

// The chapter's table: what Parse reads.
func TestExamples(t *testing.T) {
	reads(t, "project\n", api.Manifest{})
	two, pinned := version(2, 0, 0), version(1, 2, 0)
	want := api.Manifest{
		Deps:      []api.Dep{{Name: "a", Range: []api.Span{{Lo: version(1, 0, 0), Hi: version(1, 999, 999)}}}},
		Dev:       []api.Dep{{Name: "b", Range: []api.Span{{Hi: version(999, 999, 999)}}}},
		Optional:  []api.Dep{{Name: "c", Range: []api.Span{{Lo: two, Hi: two}}}},
		Overrides: []api.Dep{{Name: "a", Range: []api.Span{{Lo: pinned, Hi: pinned}}}}}
	reads(t, "project\nneeds a ^1.0.0\ndev b *\nlikes c 2.0.0\npins a 1.2.0\n", want)
	if s, e := manifest.Print(want); e != api.OK || s != "project\nneeds a >=1.0.0 <=1.999.999\ndev b *\nlikes c 2.0.0\npins a 1.2.0\n" {
		t.Errorf("Print: %q, error %d", s, e)
	}
	reads(t, "project\nneeds a *\npins a 1.0.0\n", api.Manifest{Deps: deps("a"), Overrides: deps("a 1.0.0")})
}

// The chapter's table: what Parse refuses.
func TestExamplesRefused(t *testing.T) {
	for _, x := range []struct {
		text string
		want api.Errno
	}{
		{"", api.ErrLine}, {"project x\n", api.ErrLine}, {"needs a *\n", api.ErrLine}, {"project\npins a *\nneeds a *\n", api.ErrLine},
		{"project\nneeds a *\ndev a *\n", api.ErrText},
		{"project\npins a x\n", api.ErrRange}, {"project\ndev A *\n", api.ErrName},
	} {
		refuses(t, x.text, x.want)
	}
}

// lines is a line of that word for each of the names, with the range of all.
func lines(word string, names ...string) string {
	s := ""
	for _, n := range names {
		s += word + " " + n + " *\n"
	}
	return s
}

// P6.3: the errors of scan.Lines go ahead of all others, whichever line is none.
func TestNoLines(t *testing.T) {
	for _, s := range []string{
		"\n", " ", " \n", "project", "project\n\n", "project \n", " project\n", "project\t\n", "project\r\n", "project\x00\n", "\nproject\n",
		head + "needs b *", head + "needs b * \n", head + "needs  b *\n", head + "needs b 1.0.0  || 2.0.0\n", head + " needs b *\n", head + "needs b \u00e9\n",
		"project x\n\n", "needs a *\nx", head + "needs B *\n\n", head + "dev b x\nlikes c *", head + "needs b *\nlikes b *\nx",
	} {
		refuses(t, s, api.ErrLine)
	}
}

// P6.3: a text of more than 4096 bytes is refused ahead of all else.
func TestLongTexts(t *testing.T) {
	for _, s := range []string{strings.Repeat(" ", 4097), strings.Repeat("\n", 5000), text(ofLength(0, 4097)), text(ofLength(pins, 4097)), "project x\n" + strings.Repeat("x", 4087), head + strings.Repeat("needs a *\n", 500)} {
		if len(s) <= 4096 {
			t.Fatalf("%d bytes", len(s))
		}
		refuses(t, s, api.ErrText)
	}
	for list := range 4 {
		for n := 4000; n <= 4096; n++ {
			reads(t, text(ofLength(list, n)), ofLength(list, n))
		}
	}
	long := head + "needs b" + strings.Repeat(" *", (4096-len(head)-len("needs b\n"))/2) + "\n"
	if len(long) != 4096 {
		t.Fatalf("%d bytes", len(long))
	}
	reads(t, long, api.Manifest{Deps: deps("b")})
	refuses(t, strings.Replace(long, "b", "bb", 1), api.ErrText)
	refuses(t, strings.Repeat("a", 4096), api.ErrLine)
	refuses(t, strings.Repeat("a", 4095)+"\n", api.ErrLine)
}

// P6.3: the manifest's text counts, not the one that is read: a short text is refused if Print would write a long one.
func TestShortTextsOfLongManifests(t *testing.T) {
	compact := func(m api.Manifest) string { return strings.ReplaceAll(text(m), " || ", "||") }
	for list := range 4 {
		reads(t, compact(ofLength(list, 4096)), ofLength(list, 4096))
		for _, n := range []int{4097, 4098, 4500} {
			if s := compact(ofLength(list, n)); len(s) > 4096 {
				t.Fatalf("%d bytes", len(s))
			}
			refuses(t, compact(ofLength(list, n)), api.ErrText)
		}
	}
	var carets []string
	for i := range 16 {
		carets = append(carets, "^"+strconv.Itoa(10+2*i)+".0.0")
	}
	s := head
	for _, name := range names("n", 12) {
		s += "pins " + name + " " + strings.Join(carets, " || ") + "\n"
	}
	refuses(t, s, api.ErrText)
}

// P6.3: the first line is the one word alone.
func TestFirstLine(t *testing.T) {
	for _, s := range []string{"project project\n", "project a\n", "project a 1.0.0\n", "project needs a *\n", "Project\n", "projects\n", "projec\n", "package\n", "package a 1.0.0\n", "a project\n", "needs\n", "needs a *\n", "dev a *\n", "likes a *\n", "pins a *\n", "x\n", "!\n"} {
		refuses(t, s, api.ErrLine)
		refuses(t, s+"needs b *\n", api.ErrLine)
		refuses(t, s+head, api.ErrLine)
	}
	reads(t, head+"needs needs 1.0.0\ndev dev 1.0.0\nlikes likes 1.0.0\npins pins 1.0.0\npins project *\n",
		api.Manifest{Deps: deps("needs 1.0.0"), Dev: deps("dev 1.0.0"), Optional: deps("likes 1.0.0"), Overrides: deps("pins 1.0.0", "project")})
}

// P6.3: the words of the later lines: which there are, in which order.
func TestWordOrder(t *testing.T) {
	for i, one := range listWords {
		for j, other := range listWords {
			s := head + lines(one, "b") + lines(other, "c")
			if i > j {
				refuses(t, s, api.ErrLine)
				continue
			}
			var want api.Manifest
			*listsOf(&want)[i] = deps("b")
			*listsOf(&want)[j] = append(*listsOf(&want)[j], deps("c")...)
			reads(t, s, want)
			if i < j {
				refuses(t, s+lines(one, "d"), api.ErrLine)
			}
		}
	}
}

// P6.3: the form of the later lines.
func TestLaterLines(t *testing.T) {
	for _, s := range []string{"wants b *\n", "Needs b *\n", "need b *\n", "needss b *\n", "project\n", "project b *\n", "package b 1.0.0\n", "beside b *\n", "b *\n", "b needs *\n", "x\n", "needs\n", "needs b\n", "dev\n", "dev c\n", "likes\n", "likes d\n", "pins\n", "pins d\n", "-1 b *\n"} {
		refuses(t, head+s, api.ErrLine)
		refuses(t, head+"needs aa *\n"+s, api.ErrLine)
		refuses(t, head+"pins aa *\n"+s, api.ErrLine)
		refuses(t, head+s+"pins z *\n", api.ErrLine)
	}
}

// P6.3: names of the later lines: such as may be, that rise above the one ahead with the same word.
func TestLaterNames(t *testing.T) {
	for _, word := range listWords {
		for _, name := range []string{"B", "bB", "1b", "-b", "b_", "b.c", "abcdefghijklmnopq", "*", "1.0.0"} {
			refuses(t, head+word+" "+name+" *\n", api.ErrName)
			refuses(t, head+lines(word, "a")+word+" "+name+" *\n", api.ErrName)
		}
		for _, l := range [][]string{{"b", "a"}, {"b", "b"}, {"a", "c", "b"}, {"a", "b", "b"}, {"a", "b", "a"}, {"aa", "a"}, {"a0", "a-"}, {"aa", "a9"}, {"x9", "x10"}} {
			refuses(t, head+lines(word, l...), api.ErrName)
		}
		refuses(t, head+lines(word, "b")+word+" b 1.0.0\n", api.ErrName)
	}
	reads(t, head+lines("needs", "x", "y")+lines("dev", "m", "n")+lines("likes", "b", "c")+lines("pins", "a", "b"),
		api.Manifest{Deps: deps("x", "y"), Dev: deps("m", "n"), Optional: deps("b", "c"), Overrides: deps("a", "b")})
	reads(t, head+lines("pins", "a", "a-", "a0", "aa"), api.Manifest{Overrides: deps("a", "a-", "a0", "aa")})
}

// P6.3: ranges in each of their ways, over as many words as there are.
func TestRanges(t *testing.T) {
	for _, r := range []string{"*", "1.0.0", "=1.0.0", "<1.0.0", "<=1.0.0", ">1.0.0", ">=1.0.0", "^1.2.3", "^0.2.3", "^0.0.3", "~1.2.3", ">=1.0.0 <2.0.0", "1.0.0 || 2.0.0", "1.0.0||2.0.0", "1.0.0|| 2.0.0", "1.0.0 ||2.0.0", "* * *", "* 1.0.0", "3.0.0 || 1.0.0 || 2.0.0", ">=1.0.0 <2.0.0 || ^4.0.0 <4.5.0", ">1.0.0 <1.0.1 || 3.0.0"} {
		for i, word := range listWords {
			reads(t, head+word+" b "+r+"\n", with(i, []api.Dep{{Name: "b", Range: ranged(r)}}))
		}
	}
	many := strings.Repeat("1.0.0 || ", 200) + "1.0.0"
	reads(t, head+"pins b "+many+"\n", with(pins, deps("b 1.0.0")))
	full := strings.TrimPrefix(text(with(0, []api.Dep{{Name: "b", Range: every(64)}})), head+"needs b ")
	reads(t, head+"dev b "+full, with(1, []api.Dep{{Name: "b", Range: every(64)}}))
}

// P6.3: what is no range: no text of one, one of more than 64 spans, the range of none.
func TestNoRanges(t *testing.T) {
	// Of 65 versions, without blanks, so that it is one word.
	tooMany := "1.0.0"
	for i := range 64 {
		tooMany += "||2.0." + strconv.Itoa(2*i)
	}
	for _, r := range []string{"x", "1", "1.0", "1.0.0.0", "01.0.0", "1.0.1000", "^*", "> 1.0.0", ">=", "||", "1.0.0 ||", "|| 1.0.0", "1.0.0 || || 2.0.0", "1.0.0 | 2.0.0", "1.0.0,2.0.0", "1.0.0 x", "x 1.0.0", "==1.0.0", "1.0.0 - 2.0.0",
		"<0.0.0", ">999.999.999", "1.0.0 2.0.0", ">1.0.0 <1.0.1", "<0.0.0 || >999.999.999", tooMany} {
		for _, word := range listWords {
			refuses(t, head+word+" b "+r+"\n", api.ErrRange)
			refuses(t, head+lines(word, "a")+word+" b "+r+"\n"+lines(word, "c"), api.ErrRange)
		}
	}
}

// P6.3: of one line ErrLine goes ahead of ErrName, that ahead of ErrRange.
func TestFaultsOfOneLine(t *testing.T) {
	for _, x := range []struct {
		text string
		want api.Errno
	}{
		{head + "wants B x\n", api.ErrLine}, {head + "wants b x\n", api.ErrLine}, {head + "wants B *\n", api.ErrLine}, {head + "needs B\n", api.ErrLine}, {head + "pins B x\n", api.ErrName}, {head + "dev B <0.0.0\n", api.ErrName},
		{head + "likes c *\nneeds B x\n", api.ErrLine}, {head + "likes c *\nneeds b x\n", api.ErrLine}, {head + "pins c *\nlikes b\n", api.ErrLine}, {head + "pins c *\ndev B *\n", api.ErrLine},
		{head + "needs c *\nneeds b x\n", api.ErrName}, {head + "pins c *\npins c <0.0.0\n", api.ErrName}, {head + "dev c *\ndev b\n", api.ErrLine},
	} {
		refuses(t, x.text, x.want)
	}
}

// P6.3: of several lines the first that is wrong decides; that the manifest may not be is told last.
func TestFaultsOfSeveralLines(t *testing.T) {
	full := lines("needs", names("n", 17)...)
	for _, x := range []struct {
		text string
		want api.Errno
	}{
		{"project x\nneeds B *\n", api.ErrLine}, {"packet\nneeds b x\n", api.ErrLine}, {"needs b x\nneeds B *\n", api.ErrLine},
		{head + "needs b x\nneeds B *\n", api.ErrRange}, {head + "needs b x\nwants b *\n", api.ErrRange}, {head + "dev B *\ndev c\n", api.ErrName}, {head + "dev B *\npins c x\n", api.ErrName}, {head + "needs c\nneeds B *\n", api.ErrLine},
		{head + "needs b *\ndev c x\npins D *\n", api.ErrRange}, {head + "needs b *\npins D *\ndev c x\n", api.ErrName}, {head + "pins b x\nneeds b *\n", api.ErrRange},
		{head + full + "needs z x\n", api.ErrRange}, {head + full + "needs nb *\n", api.ErrName}, {head + full + "wants z *\n", api.ErrLine}, {head + full + "likes na\n", api.ErrLine}, {head + full + "likes z *\n", api.ErrText},
		{head + "needs b *\nlikes b x\n", api.ErrRange}, {head + "needs b *\nlikes b *\npins c x\n", api.ErrRange}, {head + "needs b *\nlikes b *\nlikes a *\n", api.ErrName}, {head + "needs b *\nlikes b *\nneeds c *\n", api.ErrLine},
	} {
		refuses(t, x.text, x.want)
	}
}

// P6.3: the manifest that comes of lines which are all right may not be.
func TestNoManifest(t *testing.T) {
	for i, word := range listWords {
		reads(t, head+lines(word, names("n", 16)...), with(i, deps(names("n", 16)...)))
		for _, n := range []int{17, 18, 26} {
			refuses(t, head+lines(word, names("n", n)...), api.ErrText)
		}
		for j := i + 1; j < pins; j++ {
			other := listWords[j]
			refuses(t, head+lines(word, "b")+lines(other, "b"), api.ErrText)
			refuses(t, head+lines(word, "b", "c")+lines(other, "a", "c"), api.ErrText)
			refuses(t, head+lines(word, "b")+other+" b 1.0.0\n", api.ErrText)
			refuses(t, head+lines(word, "b")+lines(other, "b")+lines("pins", "b"), api.ErrText)
		}
	}
	all := head + lines("needs", names("w", 16)...) + lines("dev", names("x", 16)...) + lines("likes", names("y", 16)...) + lines("pins", names("z", 16)...)
	reads(t, all, full())
	refuses(t, all+lines("pins", "zz"), api.ErrText)
}

// P6.3: Overrides may have names of each of the other lists.
func TestOverridesOfOthers(t *testing.T) {
	for i, word := range listWords[:pins] {
		want := with(i, deps("b", "c"))
		want.Overrides = deps("a", "c 1.0.0")
		reads(t, head+lines(word, "b", "c")+"pins a *\npins c 1.0.0\n", want)
	}
}

// someText is a text that is nearly a manifest's, its ranges in some of their ways: at some places other words stand, or none, or lines are gone or stand elsewhere.
func (s *source) someText() string {
	m := s.someManifest()
	if s.below(3) == 0 {
		m = s.someLists()
	}
	whole := text(m)
	if s.below(2) == 0 {
		whole = strings.NewReplacer(" || ", "||", " *\n", " >=0.0.0\n", ">=1.2.3 <=1.999.999", "^1.2.3", " 1.0.0\n", " =1.0.0\n").Replace(whole)
	}
	l := strings.SplitAfter(whole, "\n")
	if s.below(3) == 0 {
		i, j := s.below(len(l)), s.below(len(l))
		l[i], l[j] = l[j], l[i]
	}
	if s.below(4) == 0 {
		l = append(l, l[s.below(len(l))])
	}
	for range s.below(3) {
		i := s.below(len(l))
		words := strings.Split(l[i], " ")
		words[s.below(len(words))] = s.pick("project", "needs", "dev", "likes", "pins", "wants", "a", "B", "zz", "1.0", "1.0.0", "<0.0.0", "||", "*", "x", "* *", "^2.0.0", "a\n", "*\n", "1.0.0\n", "", "\n", "needs b *\n", "pins\n")
		l[i] = strings.Join(words, " ")
	}
	return strings.Join(l, "")
}

// P6.3: Parse answers as the model does, of many texts that are nearly manifests.
func TestParseAsModel(t *testing.T) {
	s := source(1)
	met := map[api.Errno]int{}
	for range 20000 {
		whole := s.someText()
		want, e := model(whole)
		met[e]++
		m, got := manifest.Parse(whole)
		if got != e || e == api.OK && text(m) != want || e != api.OK && !same(m, api.Manifest{}) {
			t.Fatalf("Parse(%q): %s, error %d, not error %d, %q", whole, flat(m), got, e, want)
		}
	}
	for _, e := range []api.Errno{api.OK, api.ErrLine, api.ErrName, api.ErrRange, api.ErrText} {
		if met[e] < 50 {
			t.Errorf("error %d was met %d times", e, met[e])
		}
	}
}
