package manifest_test

import (
	"math"
	"regexp"
	"slices"
	"strconv"
	"strings"
	"testing"

	"halyard/api"
	"halyard/manifest"
	"halyard/span"
)

// listWords are the words of the lists, in their order.
var listWords = []string{"needs", "dev", "likes", "pins"}

// pins is the number of the list of Overrides, which may have names of the others.
const pins = 3

func version(major, minor, patch int) api.Version {
	return api.Version{Major: major, Minor: minor, Patch: patch}
}

// ranged is the range of a text of the tests.
func ranged(text string) []api.Span {
	l, e := span.Parse(text)
	if e != api.OK {
		panic(text)
	}
	return l
}

// deps is a list: each text is a name, and perhaps a range behind a blank; else it is all versions.
func deps(texts ...string) []api.Dep {
	var l []api.Dep
	for _, s := range texts {
		name, text, some := strings.Cut(s, " ")
		if !some {
			text = "*"
		}
		l = append(l, api.Dep{Name: name, Range: ranged(text)})
	}
	return l
}

// names is so many names that rise.
func names(first string, count int) []string {
	var l []string
	for i := range count {
		l = append(l, first+string(rune('a'+i)))
	}
	return l
}

// with is a manifest with that list alone, which is told by its number.
func with(list int, l []api.Dep) api.Manifest {
	var m api.Manifest
	*listsOf(&m)[list] = l
	return m
}

func listsOf(m *api.Manifest) []*[]api.Dep {
	return []*[]api.Dep{&m.Deps, &m.Dev, &m.Optional, &m.Overrides}
}

// base is a manifest with something in each list.
func base() api.Manifest {
	return api.Manifest{Deps: deps("b ^1.0.0", "d 1.0.0 || 3.0.0"), Dev: deps("c", "e <2.0.0"),
		Optional: deps("a >=4.0.0", "f 1.5.0", "g ~0.3.1"), Overrides: deps("d 3.0.0", "x", "z 1.1.1 || >2.0.0")}
}

// full is a manifest of four lists that have as many as they may.
func full() api.Manifest {
	return api.Manifest{Deps: deps(names("w", 16)...), Dev: deps(names("x", 16)...), Optional: deps(names("y", 16)...), Overrides: deps(names("z", 16)...)}
}

// every is the range of so many single versions; each has 11 bytes as a text.
func every(count int) []api.Span {
	var l []api.Span
	for i := range count {
		v := version(100, 100, 100+2*i)
		l = append(l, api.Span{Lo: v, Hi: v})
	}
	return l
}

// ofLength is a manifest with that list alone, whose text has so many bytes, some thousand: long lines first, then one that is as long as is left over.
func ofLength(list, bytes int) api.Manifest {
	frame := len(listWords[list]) + len("  \n")
	long := frame + len("a") + 64*11 + 63*4
	var l []api.Dep
	left := bytes - len("project\n")
	for left >= long+frame+12 {
		l = append(l, api.Dep{Name: string(rune('a' + len(l))), Range: every(64)})
		left -= long
	}
	left -= frame - len(" || ")
	spans := (left - 1) / 15
	return with(list, append(l, api.Dep{Name: strings.Repeat("z", left-15*spans), Range: every(spans)}))
}

// text is a manifest as it is to be written, whether it may be or not.
func text(m api.Manifest) string {
	s := "project\n"
	for i, l := range listsOf(&m) {
		for _, d := range *l {
			s += listWords[i] + " " + d.Name + " " + span.Print(d.Range) + "\n"
		}
	}
	return s
}

// same tells whether two manifests are the same, by the tests' own means; nil and empty lists are one.
func same(a, b api.Manifest) bool { return flat(a) == flat(b) }

// flat is all that a manifest has, whether it may be or not, as one text.
func flat(m api.Manifest) string {
	s := ""
	for _, l := range listsOf(&m) {
		s += "["
		for _, d := range *l {
			s += "{" + strconv.Quote(d.Name)
			for _, x := range d.Range {
				s += "(" + numbers(x.Lo) + ";" + numbers(x.Hi) + ")"
			}
			s += "}"
		}
		s += "]"
	}
	return s
}

func numbers(v api.Version) string {
	return strconv.Itoa(v.Major) + "," + strconv.Itoa(v.Minor) + "," + strconv.Itoa(v.Patch)
}

// clone is a manifest in memory of its own, at every depth.
func clone(m api.Manifest) api.Manifest {
	for _, l := range listsOf(&m) {
		*l = slices.Clone(*l)
		for i := range *l {
			(*l)[i].Range = slices.Clone((*l)[i].Range)
		}
	}
	return m
}

var (
	nameForm  = regexp.MustCompile(`^[a-z][a-z0-9-]{0,15}$`)
	lineForm  = regexp.MustCompile(`^[!-~]+( [!-~]+)*\n$`)
	laterForm = regexp.MustCompile(`^(needs|dev|likes|pins) ([^ ]+) (.+)\n$`)
)

// model is what Parse must answer, by the tests' own means; of a manifest it tells the text that Print must write.
func model(whole string) (string, api.Errno) {
	if len(whole) > 4096 {
		return "", api.ErrText
	}
	lines := strings.SplitAfter(whole, "\n")
	if last := len(lines) - 1; lines[last] == "" {
		lines = lines[:last]
	}
	if slices.ContainsFunc(lines, func(s string) bool { return !lineForm.MatchString(s) }) {
		return "", api.ErrLine
	}
	if len(lines) == 0 || lines[0] != "project\n" {
		return "", api.ErrLine
	}
	out := lines[0]
	counts, seen := map[string]int{}, map[string]string{}
	twice := false
	word, name := "needs", ""
	for _, s := range lines[1:] {
		m := laterForm.FindStringSubmatch(s)
		if m == nil || slices.Index(listWords, m[1]) < slices.Index(listWords, word) {
			return "", api.ErrLine
		}
		if !nameForm.MatchString(m[2]) || m[1] == word && m[2] <= name {
			return "", api.ErrName
		}
		r, e := span.Parse(m[3])
		if e != api.OK || len(r) == 0 {
			return "", api.ErrRange
		}
		word, name = m[1], m[2]
		counts[word]++
		if word != "pins" {
			twice = twice || seen[name] != ""
			seen[name] = word
		}
		out += word + " " + name + " " + span.Print(r) + "\n"
	}
	if twice || len(out) > 4096 || max(counts["needs"], counts["dev"], counts["likes"], counts["pins"]) > 16 {
		return "", api.ErrText
	}
	return out, api.OK
}

// source is numbers that look like chance, and are the same each time.
type source uint64

func (s *source) below(n int) int {
	*s = *s*6364136223846793005 + 1442695040888963407
	return int(uint64(*s) >> 33 % uint64(n))
}

func (s *source) pick(texts ...string) string { return texts[s.below(len(texts))] }

// someManifest is a manifest that may be.
func (s *source) someManifest() api.Manifest {
	m := s.someLists()
	seen := map[string]int{}
	for i, l := range listsOf(&m) {
		*l = slices.DeleteFunc(*l, func(d api.Dep) bool {
			seen[d.Name]++
			return i < pins && seen[d.Name] > 1
		})
		*l = (*l)[:min(len(*l), 16)]
	}
	return m
}

// someLists is a manifest that may be but for how many Deps it has, and for names that stand in two lists.
func (s *source) someLists() api.Manifest {
	var m api.Manifest
	for _, l := range listsOf(&m) {
		*l = deps(s.rising(s.below([]int{1, 3, 24}[s.below(3)]))...)
	}
	return m
}

// rising is at most so many names that rise, each with a range's text.
func (s *source) rising(most int) []string {
	var l []string
	for range most {
		l = append(l, s.pick("a", "b", "m", "z")+s.pick("", "-", "0", "a", "z")+s.pick("", "-", "1", "b", "x"))
	}
	slices.Sort(l)
	l = slices.Compact(l)
	for i := range l {
		l[i] += " " + s.someRange()
	}
	return l
}

// someRange is the text of a range, not that of none.
func (s *source) someRange() string {
	return s.pick("*", "1.0.0", "=1.0.0", "<2.0.0", "<=2.0.0", ">2.0.0", ">=2.0.0", "^1.2.3", "^0.2.3", "^0.0.3", "~1.2.3", ">=1.0.0 <2.0.0", "1.0.0 || 2.0.0", "1.0.0||2.0.0", "3.0.0 || ^1.0.0 || * 2.0.0")
}

// short cuts a text that is too long to tell.
func short(s string) string {
	if len(s) > 160 {
		return strconv.Quote(s[:160]) + " and so on"
	}
	return strconv.Quote(s)
}

// mayBe tells a fault unless a manifest may be, and is written as it is to be.
func mayBe(t *testing.T, what string, m api.Manifest) {
	t.Helper()
	if !manifest.May(m) {
		t.Errorf("May of %s: false", what)
	}
	if s, e := manifest.Print(m); s != text(m) || e != api.OK {
		t.Errorf("Print of %s: %s, error %d, not %s", what, short(s), e, short(text(m)))
	}
}

// mayNotBe tells a fault unless a manifest may not be, and is not written.
func mayNotBe(t *testing.T, what string, m api.Manifest) {
	t.Helper()
	if manifest.May(m) {
		t.Errorf("May of %s: true", what)
	}
	if s, e := manifest.Print(m); s != "" || e != api.ErrText {
		t.Errorf("Print of %s: %s, error %d, not error %d", what, short(s), e, api.ErrText)
	}
}

// reads tells a fault unless a text is that of a manifest.
func reads(t *testing.T, s string, want api.Manifest) {
	t.Helper()
	if m, e := manifest.Parse(s); e != api.OK || !same(m, want) {
		t.Errorf("Parse(%s): %s, error %d, not %s", short(s), short(flat(m)), e, short(flat(want)))
	}
}

// refuses tells a fault unless a text is refused, by just that error, and nothing is answered beside it.
func refuses(t *testing.T, s string, want api.Errno) {
	t.Helper()
	if m, e := manifest.Parse(s); e != want || !same(m, api.Manifest{}) {
		t.Errorf("Parse(%s): %s, error %d, not error %d", short(s), short(flat(m)), e, want)
	}
}

// noNames is names that may not be.
func noNames() []string {
	return []string{"", "A", "aB", "1a", "-a", "a_b", "a.b", "a/b", "a b", " a", "a ", "a\n", "\x00", "\xff", "\u00e9", "a\u00e9", "abcdefghijklmnopq", strings.Repeat("a", 5000)}
}

// noVersions is versions that may not be.
func noVersions() []api.Version {
	var l []api.Version
	for _, n := range []int{-1, 1000, math.MinInt, math.MaxInt} {
		l = append(l, version(n, 0, 0), version(0, n, 0), version(0, 0, n), version(999, n, 999))
	}
	return l
}

// noRanges is ranges that may not stand in a list.
func noRanges() map[string][]api.Span {
	one, two := version(1, 0, 0), version(2, 0, 0)
	l := map[string][]api.Span{
		"the range of none":          nil,
		"the range of none, not nil": {},
		"a Lo greater than its Hi":   {{Lo: two, Hi: one}},
		"spans that touch":           {{Lo: one, Hi: one}, {Lo: version(1, 0, 1), Hi: two}},
		"spans in the wrong order":   {{Lo: two, Hi: two}, {Lo: one, Hi: one}},
		"a span twice":               {{Lo: one, Hi: one}, {Lo: one, Hi: one}},
		"65 spans":                   every(65),
		"5000 spans":                 slices.Concat(slices.Repeat([][]api.Span{every(50)}, 100)...),
	}
	for _, v := range noVersions() {
		l["Lo of "+numbers(v)] = []api.Span{{Lo: v, Hi: two}}
		l["Hi of "+numbers(v)] = []api.Span{{Lo: one, Hi: v}}
	}
	return l
}
