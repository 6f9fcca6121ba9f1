package pack_test

import (
	"strconv"
	"strings"
	"testing"

	"halyard/api"
	"halyard/pack"
)

const head = "package a 1.0.0\n"

// The chapter's table: what Parse reads, and how Print writes it.
func TestExamples(t *testing.T) {
	reads(t, "package a 1.2.0\n", api.Package{Name: "a", Version: version(1, 2, 0)})
	text := "package a 1.2.0\nneeds b ^1.0.0\nbeside c *\nlikes d 1.0.0 || 2.0.0\n"
	one, two := version(1, 0, 0), version(2, 0, 0)
	want := api.Package{Name: "a", Version: version(1, 2, 0),
		Deps:     []api.Dep{{Name: "b", Range: []api.Span{{Lo: one, Hi: version(1, 999, 999)}}}},
		Peers:    []api.Dep{{Name: "c", Range: []api.Span{{Hi: version(999, 999, 999)}}}},
		Optional: []api.Dep{{Name: "d", Range: []api.Span{{Lo: one, Hi: one}, {Lo: two, Hi: two}}}}}
	reads(t, text, want)
	if s, e := pack.Print(want); e != api.OK || s != strings.Replace(text, "^1.0.0", ">=1.0.0 <=1.999.999", 1) {
		t.Errorf("Print: %q, error %d", s, e)
	}
	mayNotBe(t, "Version 0.0.1000", api.Package{Name: "a", Version: version(0, 0, 1000)})
	mayNotBe(t, "a Range of none", with(0, []api.Dep{{Name: "b"}}))
}

// The chapter's table: what Parse refuses.
func TestExamplesRefused(t *testing.T) {
	for _, x := range []struct {
		text string
		want api.Errno
	}{
		{"", api.ErrLine}, {"package a\n", api.ErrLine}, {"packet a 1.0.0\n", api.ErrLine}, {"package a 1.0\n", api.ErrVersion}, {"package A 1.0.0\n", api.ErrName},
		{head + "likes c *\nneeds b *\n", api.ErrLine}, {head + "needs b\n", api.ErrLine}, {head + "needs c *\nneeds b *\n", api.ErrName},
		{head + "needs b <0.0.0\n", api.ErrRange}, {head + "needs b x\n", api.ErrRange}, {head + "needs B x\n", api.ErrName},
		{head + "needs b *\nlikes b *\n", api.ErrPack}, {head + lines("needs", names("n", 17)...), api.ErrPack},
		{"package a 1.0.0", api.ErrLine}, {strings.Repeat("a", 4097), api.ErrText},
	} {
		refuses(t, x.text, x.want)
	}
}

// lines is a line of that word for each of the names, with the range of all.
func lines(word string, names ...string) string {
	s := ""
	for _, n := range names {
		s += word + " " + n + " *\n"
	}
	return s
}

// P5.3: the errors of scan.Lines go ahead of all others, whichever line is none.
func TestNoLines(t *testing.T) {
	for _, s := range []string{
		"\n", " ", " \n", "package a 1.0.0\n\n", "package  a 1.0.0\n", " package a 1.0.0\n", "package a 1.0.0 \n", "package a\t1.0.0\n", "package a 1.0.0\r\n", "package a 1.0.0\x00\n", "\npackage a 1.0.0\n",
		head + "needs b *", head + "needs b * \n", head + "needs  b *\n", head + "needs b 1.0.0  || 2.0.0\n", head + " needs b *\n", head + "needs b \u00e9\n",
		"package A 1.0.0\n\n", "package a 1.0\nx", head + "needs B *\n\n", head + "needs b x\nlikes c *", head + "needs b *\nlikes b *\nx",
	} {
		refuses(t, s, api.ErrLine)
	}
}

// P5.3: a text of more than 4096 bytes is refused ahead of all else.
func TestLongTexts(t *testing.T) {
	for _, s := range []string{strings.Repeat(" ", 4097), strings.Repeat("\n", 5000), text(ofLength(4097)), "package A 1\n" + strings.Repeat("x", 4085), head + strings.Repeat("needs a *\n", 500)} {
		if len(s) <= 4096 {
			t.Fatalf("%d bytes", len(s))
		}
		refuses(t, s, api.ErrText)
	}
	for n := 4000; n <= 4096; n++ {
		reads(t, text(ofLength(n)), ofLength(n))
	}
	long := head + "needs b" + strings.Repeat(" *", (4096-len(head)-len("needs b\n"))/2) + "\n"
	if len(long) != 4096 {
		t.Fatalf("%d bytes", len(long))
	}
	reads(t, long, api.Package{Name: "a", Version: version(1, 0, 0), Deps: deps("b")})
	refuses(t, strings.Replace(long, "b", "bb", 1), api.ErrText)
	refuses(t, strings.Repeat("a", 4096), api.ErrLine)
	refuses(t, strings.Repeat("a", 4095)+"\n", api.ErrLine)
}

// P5.3: the package's text counts, not the one that is read: a short text is refused if Print would write a long one.
func TestShortTextsOfLongPackages(t *testing.T) {
	compact := func(p api.Package) string { return strings.ReplaceAll(text(p), " || ", "||") }
	reads(t, compact(ofLength(4096)), ofLength(4096))
	for _, n := range []int{4097, 4098, 4500} {
		if s := compact(ofLength(n)); len(s) > 4096 {
			t.Fatalf("%d bytes", len(s))
		}
		refuses(t, compact(ofLength(n)), api.ErrPack)
	}
	var carets []string
	for i := range 16 {
		carets = append(carets, "^"+strconv.Itoa(10+2*i)+".0.0")
	}
	s := head
	for _, name := range names("n", 12) {
		s += "beside " + name + " " + strings.Join(carets, " || ") + "\n"
	}
	refuses(t, s, api.ErrPack)
}

// P5.3: the first line's form, name and version.
func TestFirstLine(t *testing.T) {
	own := api.Package{Name: "own", Version: version(0, 12, 999)}
	reads(t, "package own 0.12.999\n", own)
	for _, s := range []string{"package\n", "package own\n", "package own 1.0.0 1.0.0\n", "package own 1.0.0 x\n", "package own 1.0.0 needs b *\n", "Package own 1.0.0\n", "packages own 1.0.0\n", "packag own 1.0.0\n", "own package 1.0.0\n", "own 1.0.0\n", "needs own 1.0.0\n", "project\n", "x\n"} {
		refuses(t, s, api.ErrLine)
		refuses(t, s+"needs b *\n", api.ErrLine)
	}
	for _, name := range []string{"A", "aB", "1a", "-a", "a_b", "a.b", "@a", "abcdefghijklmnopq", "1.0.0"} {
		refuses(t, "package "+name+" 1.0.0\n", api.ErrName)
	}
	for _, v := range []string{"1", "1.0", "1.0.0.0", "1.0.1000", "01.0.0", "1.0.x", "v1.0.0", "^1.0.0", "=1.0.0", "*", "1.0.-1", "1..0", "package"} {
		refuses(t, "package own "+v+"\n", api.ErrVersion)
	}
	reads(t, "package package 1.0.0\nneeds needs 1.0.0\nbeside beside 1.0.0\nlikes likes 1.0.0\n",
		api.Package{Name: "package", Version: version(1, 0, 0), Deps: deps("needs 1.0.0"), Peers: deps("beside 1.0.0"), Optional: deps("likes 1.0.0")})
}

// P5.3: the words of the later lines: which there are, in which order.
func TestWordOrder(t *testing.T) {
	for i, one := range listWords {
		for j, other := range listWords {
			s := head + lines(one, "b") + lines(other, "c")
			if i > j {
				refuses(t, s, api.ErrLine)
				continue
			}
			want := api.Package{Name: "a", Version: version(1, 0, 0)}
			*listsOf(&want)[i] = deps("b")
			*listsOf(&want)[j] = append(*listsOf(&want)[j], deps("c")...)
			reads(t, s, want)
			if i < j {
				refuses(t, s+lines(one, "d"), api.ErrLine)
			}
		}
	}
}

// P5.3: the form of the later lines.
func TestLaterLines(t *testing.T) {
	for _, s := range []string{"wants b *\n", "Needs b *\n", "need b *\n", "needss b *\n", "package b 1.0.0\n", "dev b *\n", "pins b *\n", "b *\n", "b needs *\n", "x\n", "needs\n", "needs b\n", "beside\n", "beside c\n", "likes\n", "likes d\n", "-1 b *\n"} {
		refuses(t, head+s, api.ErrLine)
		refuses(t, head+"needs aa *\n"+s, api.ErrLine)
		refuses(t, head+"likes aa *\n"+s, api.ErrLine)
		refuses(t, head+s+"likes z *\n", api.ErrLine)
	}
}

// P5.3: names of the later lines: such as may be, that rise above the one ahead with the same word.
func TestLaterNames(t *testing.T) {
	for _, word := range listWords {
		for _, name := range []string{"B", "bB", "1b", "-b", "b_", "b.c", "abcdefghijklmnopq", "*", "1.0.0"} {
			refuses(t, head+word+" "+name+" *\n", api.ErrName)
			refuses(t, head+lines(word, "a")+word+" "+name+" *\n", api.ErrName)
		}
		for _, l := range [][]string{{"b", "a"}, {"b", "b"}, {"a", "c", "b"}, {"a", "b", "b"}, {"a", "b", "a"}, {"aa", "a"}, {"a0", "a-"}, {"aa", "a9"}, {"x9", "x10"}} {
			refuses(t, head+lines(word, l...), api.ErrName)
		}
		refuses(t, head+lines(word, "b")+word+" b 1.0.0\n", api.ErrName)
	}
	reads(t, head+lines("needs", "x", "y")+lines("beside", "m", "n")+lines("likes", "b", "c"),
		api.Package{Name: "a", Version: version(1, 0, 0), Deps: deps("x", "y"), Peers: deps("m", "n"), Optional: deps("b", "c")})
	reads(t, head+lines("needs", "a"), api.Package{Name: "a", Version: version(1, 0, 0), Deps: deps("a")})
	reads(t, head+lines("likes", "a", "a-", "a0", "aa"), api.Package{Name: "a", Version: version(1, 0, 0), Optional: deps("a", "a-", "a0", "aa")})
}

// P5.3: ranges in each of their ways, over as many words as there are.
func TestRanges(t *testing.T) {
	for _, r := range []string{"*", "1.0.0", "=1.0.0", "<1.0.0", "<=1.0.0", ">1.0.0", ">=1.0.0", "^1.2.3", "^0.2.3", "^0.0.3", "~1.2.3", ">=1.0.0 <2.0.0", "1.0.0 || 2.0.0", "1.0.0||2.0.0", "1.0.0|| 2.0.0", "1.0.0 ||2.0.0", "* * *", "* 1.0.0", "3.0.0 || 1.0.0 || 2.0.0", ">=1.0.0 <2.0.0 || ^4.0.0 <4.5.0", ">1.0.0 <1.0.1 || 3.0.0"} {
		for i, word := range listWords {
			want := with(i, []api.Dep{{Name: "b", Range: ranged(r)}})
			reads(t, "package own 1.2.3\n"+word+" b "+r+"\n", want)
		}
	}
	many := strings.Repeat("1.0.0 || ", 200) + "1.0.0"
	reads(t, "package own 1.2.3\nlikes b "+many+"\n", with(2, deps("b 1.0.0")))
	full := strings.TrimPrefix(text(with(0, []api.Dep{{Name: "b", Range: every(64)}})), "package own 1.2.3\nneeds b ")
	reads(t, "package own 1.2.3\nbeside b "+full, with(1, []api.Dep{{Name: "b", Range: every(64)}}))
}

// P5.3: what is no range: no text of one, one of more than 64 spans, the range of none.
func TestNoRanges(t *testing.T) {
	// Of 65 versions, without blanks, so that it is one word.
	tooMany := "1.0.0"
	for i := range 64 {
		tooMany += "||2.0." + strconv.Itoa(2*i)
	}
	for _, r := range []string{"x", "1", "1.0", "1.0.0.0", "01.0.0", "1.0.1000", "^*", "> 1.0.0", ">=", "||", "1.0.0 ||", "|| 1.0.0", "1.0.0 || || 2.0.0", "1.0.0 | 2.0.0", "1.0.0,2.0.0", "1.0.0 x", "x 1.0.0", "==1.0.0", "1.0.0 - 2.0.0",
		"<0.0.0", ">999.999.999", "1.0.0 2.0.0", ">1.0.0 <1.0.1", "<0.0.0 || >999.999.999", tooMany} {
		for _, word := range listWords {
			refuses(t, head+word+" b "+r+"\n", api.ErrRange)
			refuses(t, head+lines(word, "a")+word+" b "+r+"\n"+lines(word, "c"), api.ErrRange)
		}
	}
}

// P5.3: of one line ErrLine goes ahead of ErrName, that ahead of ErrVersion and ErrRange.
func TestFaultsOfOneLine(t *testing.T) {
	for _, x := range []struct {
		text string
		want api.Errno
	}{
		{"packet A 1.0\n", api.ErrLine}, {"packet a 1.0\n", api.ErrLine}, {"packet A 1.0.0\n", api.ErrLine}, {"package A\n", api.ErrLine}, {"package A 1.0 x\n", api.ErrLine}, {"package a 1.0 x\n", api.ErrLine}, {"package A 1.0\n", api.ErrName},
		{head + "wants B x\n", api.ErrLine}, {head + "wants b x\n", api.ErrLine}, {head + "wants B *\n", api.ErrLine}, {head + "needs B\n", api.ErrLine}, {head + "needs B x\n", api.ErrName}, {head + "needs B <0.0.0\n", api.ErrName},
		{head + "likes c *\nneeds B x\n", api.ErrLine}, {head + "likes c *\nneeds b x\n", api.ErrLine}, {head + "likes c *\nbeside b\n", api.ErrLine},
		{head + "needs c *\nneeds b x\n", api.ErrName}, {head + "needs c *\nneeds c <0.0.0\n", api.ErrName}, {head + "needs c *\nneeds b\n", api.ErrLine},
	} {
		refuses(t, x.text, x.want)
	}
}

// P5.3: of several lines the first that is wrong decides; that the package may not be is told last.
func TestFaultsOfSeveralLines(t *testing.T) {
	full := lines("needs", names("n", 17)...)
	for _, x := range []struct {
		text string
		want api.Errno
	}{
		{"package A 1.0.0\nwants b *\n", api.ErrName}, {"package a 1.0\nwants b *\n", api.ErrVersion}, {"package a 1.0\nneeds B *\n", api.ErrVersion}, {"packet a 1.0.0\nneeds B *\n", api.ErrLine},
		{head + "needs b x\nneeds B *\n", api.ErrRange}, {head + "needs b x\nwants b *\n", api.ErrRange}, {head + "needs B *\nneeds c\n", api.ErrName}, {head + "needs B *\nneeds c x\n", api.ErrName}, {head + "needs c\nneeds B *\n", api.ErrLine},
		{head + "needs b *\nneeds c x\nlikes D *\n", api.ErrRange}, {head + "needs b *\nlikes D *\nneeds c x\n", api.ErrName},
		{head + full + "needs z x\n", api.ErrRange}, {head + full + "needs nb *\n", api.ErrName}, {head + full + "wants z *\n", api.ErrLine}, {head + full + "likes na\n", api.ErrLine}, {head + full + "likes z *\n", api.ErrPack},
		{head + "needs b *\nlikes b x\n", api.ErrRange}, {head + "needs b *\nlikes b *\nlikes c x\n", api.ErrRange}, {head + "needs b *\nlikes b *\nlikes a *\n", api.ErrName}, {head + "needs b *\nlikes b *\nneeds c *\n", api.ErrLine},
	} {
		refuses(t, x.text, x.want)
	}
}

// P5.3: the package that comes of lines which are all right may not be.
func TestNoPackage(t *testing.T) {
	for i, word := range listWords {
		reads(t, "package own 1.2.3\n"+lines(word, names("n", 16)...), with(i, deps(names("n", 16)...)))
		for _, n := range []int{17, 18, 26} {
			refuses(t, head+lines(word, names("n", n)...), api.ErrPack)
		}
		for _, other := range listWords[i+1:] {
			refuses(t, head+lines(word, "b")+lines(other, "b"), api.ErrPack)
			refuses(t, head+lines(word, "b", "c")+lines(other, "a", "c"), api.ErrPack)
			refuses(t, head+lines(word, "b")+other+" b 1.0.0\n", api.ErrPack)
		}
	}
	all := head + lines("needs", names("x", 16)...) + lines("beside", names("y", 16)...) + lines("likes", names("z", 16)...)
	reads(t, all, api.Package{Name: "a", Version: version(1, 0, 0), Deps: deps(names("x", 16)...), Peers: deps(names("y", 16)...), Optional: deps(names("z", 16)...)})
	refuses(t, all+lines("likes", "zz"), api.ErrPack)
}

// someText is a text that is nearly a package's, its ranges in some of their ways: at some places other words stand, or none, or lines are gone or stand elsewhere.
func (s *source) someText() string {
	p := s.somePackage()
	if s.below(3) == 0 {
		p = s.someLists()
	}
	whole := text(p)
	if s.below(2) == 0 {
		whole = strings.NewReplacer(" || ", "||", " *\n", " >=0.0.0\n", ">=1.2.3 <=1.999.999", "^1.2.3", " 1.0.0\n", " =1.0.0\n").Replace(whole)
	}
	l := strings.SplitAfter(whole, "\n")
	if s.below(3) == 0 {
		i, j := s.below(len(l)), s.below(len(l))
		l[i], l[j] = l[j], l[i]
	}
	if s.below(4) == 0 {
		l = append(l, l[s.below(len(l))])
	}
	for range s.below(3) {
		i := s.below(len(l))
		words := strings.Split(l[i], " ")
		words[s.below(len(words))] = s.pick("package", "needs", "beside", "likes", "wants", "a", "B", "zz", "1.0", "1.0.0", "<0.0.0", "||", "*", "x", "* *", "^2.0.0", "a\n", "*\n", "1.0.0\n", "", "\n", "needs b *\n", "likes\n")
		l[i] = strings.Join(words, " ")
	}
	return strings.Join(l, "")
}

// P5.3: Parse answers as the model does, of many texts that are nearly packages.
func TestParseAsModel(t *testing.T) {
	s := source(1)
	met := map[api.Errno]int{}
	for range 20000 {
		whole := s.someText()
		want, e := model(whole)
		met[e]++
		p, got := pack.Parse(whole)
		if got != e || e == api.OK && text(p) != want || e != api.OK && !same(p, api.Package{}) {
			t.Fatalf("Parse(%q): %s, error %d, not error %d, %q", whole, flat(p), got, e, want)
		}
	}
	for _, e := range []api.Errno{api.OK, api.ErrLine, api.ErrName, api.ErrVersion, api.ErrRange, api.ErrPack} {
		if met[e] < 50 {
			t.Errorf("error %d was met %d times", e, met[e])
		}
	}
}
