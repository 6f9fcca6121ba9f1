package plan_test

import (
	"encoding/hex"
	"fmt"
	"regexp"
	"slices"
	"strings"
	"testing"

	"halyard/api"
	"halyard/plan"
)

func unlink(path string) api.Deed { return api.Deed{Kind: api.DeedUnlink, Path: path} }

func rmdir(path string) api.Deed { return api.Deed{Kind: api.DeedRmdir, Path: path} }

func mkdir(path string) api.Deed { return api.Deed{Kind: api.DeedMkdir, Path: path} }

func put(path, data string) api.Deed { return api.Deed{Kind: api.DeedPut, Path: path, Data: data} }

func deeds(l ...api.Deed) []api.Deed { return l }

// text is lines as a text.
func text(lines ...string) string {
	var b strings.Builder
	for _, s := range lines {
		b.WriteString(s + "\n")
	}
	return b.String()
}

// everyByte is each byte once.
func everyByte() string {
	var b []byte
	for i := range 256 {
		b = append(b, byte(i))
	}
	return string(b)
}

// longPath is a text of so many bytes, made as a path is, of parts of at most 24 bytes.
func longPath(n int) string {
	var b strings.Builder
	for b.Len() < n {
		part := min(24, n-b.Len()-1)
		if n-b.Len()-1-part == 1 { // a part must be left behind the slash
			part--
		}
		b.WriteString("/" + strings.Repeat("p", part))
	}
	return b.String()
}

// goodPaths is paths of which deeds may be.
func goodPaths() []string {
	l := []string{
		"/a", "/a/b", "/a/b/c", "/z", "/0", "/9", "/-", "/--", "/...", "/.a", "/a.", "/..a", "/a..", "/a/...", "/a-b.c0/d", "/manifest", "/lock", "/pruned", "/modules/a/package",
		"/journals", "/journal.x", "/journal.", "/journal-", "/journal0", "/journal-x/plan", "/journals/x", "/journa", "/ajournal", "/a/journal", "/a/journal/x", "/modules/journal", "/journals/journal", "/plan", "/plan.new", "/unlink", "/put",
		"/" + strings.Repeat("x", 23), "/" + strings.Repeat("x", 24), "/a/" + strings.Repeat("9", 24) + "/b", strings.Repeat("/a", api.MaxDiskPath/2), longPath(api.MaxDiskPath - 1), longPath(api.MaxDiskPath),
	}
	return l
}

// badPaths is texts that are no path, and paths of which no deed may be.
func badPaths() []string {
	l := []string{
		"/", "/journal", "/journal/x", "/journal/plan", "/journal/plan.new", "/journal/a/b", "/journal/journal", "/journal/-",
		"", "a", "a/b", "-", ".", "..", "journal", "//", "//a", "/a/", "/a//b", "/.", "/..", "/a/.", "/a/..", "/../a", "/./a", "/a/../b", "/A", "/aB", "/a b", " /a", "/a ", "/a_b", "/a\n", "\n/a", "/a\nb", "/a\t", "/a\x00", "/\x00", "/\xff", "/\u00e9", "/a\\b", "/a:b", "/a*", "/~",
		"/journal/", "/journal//x", "/journal/X", "/Journal", "//journal", "/" + strings.Repeat("x", 25), "/a/" + strings.Repeat("9", 25) + "/b", "/" + strings.Repeat("x", 4095),
		longPath(api.MaxDiskPath + 1), longPath(api.MaxDiskPath + 2), strings.Repeat("/a", api.MaxDiskPath/2) + "/", strings.Repeat("/a", api.MaxDiskPath/2+1), strings.Repeat("/", 5000), strings.Repeat("/a", 1<<18), "/journal" + longPath(4000),
	}
	return l
}

// flat is a value as a text that is not too long to tell.
func flat(v any) string {
	s := fmt.Sprintf("%+q", fmt.Sprintf("%+v", v))
	if len(s) > 1500 {
		return s[:1500] + " and so on"
	}
	return s
}

// taken tells a fault unless deeds are a plan, with that text, which is read as them.
func taken(t *testing.T, what string, l []api.Deed, want string) {
	t.Helper()
	if e := plan.Check(l); e != api.OK {
		t.Errorf("%s: Check(%s): error %d", what, flat(l), e)
	}
	if s, e := plan.Print(l); e != api.OK || s != want {
		t.Errorf("%s: Print(%s): %s, error %d, not %s", what, flat(l), flat(s), e, flat(want))
	}
	if got, e := plan.Parse(want); e != api.OK || !slices.Equal(got, l) {
		t.Errorf("%s: Parse(%s): %s, error %d, not %s", what, flat(want), flat(got), e, flat(l))
	}
}

// refused tells a fault unless deeds are refused, and no text is told beside it.
func refused(t *testing.T, what string, l []api.Deed) {
	t.Helper()
	if e := plan.Check(l); e != api.ErrPlan {
		t.Errorf("%s: Check(%s): error %d", what, flat(l), e)
	}
	if s, e := plan.Print(l); e != api.ErrPlan || s != "" {
		t.Errorf("%s: Print(%s): %s, error %d", what, flat(l), flat(s), e)
	}
}

// notRead tells a fault unless a text is refused so, and no deed is told beside it.
func notRead(t *testing.T, s string, want api.Errno) {
	t.Helper()
	if l, e := plan.Parse(s); e != want || l != nil {
		t.Errorf("Parse(%s): %s, error %d, not error %d", flat(s), flat(l), e, want)
	}
}

var (
	pathForm = regexp.MustCompile(`^(/[a-z0-9.-]+)+$`)
	textForm = regexp.MustCompile(`^([!-~]+( [!-~]+)*\n)*$`)
	lineForm = regexp.MustCompile(`^(?:(unlink|rmdir|mkdir) ([^ ]+)|put ([^ ]+) (-|(?:[0-9a-f][0-9a-f])+))$`)
)

// modelPath tells by the words of the chapters 1 and 17 whether a plan's deed may be of a path.
func modelPath(path string) bool {
	if len(path) > 4096 || !pathForm.MatchString(path) {
		return false
	}
	for _, part := range strings.Split(path, "/")[1:] {
		if len(part) > 24 || part == "." || part == ".." {
			return false
		}
	}
	return path != "/journal" && !strings.HasPrefix(path, "/journal/")
}

// modelPlan tells by the chapter's words whether deeds are a plan: each two of them are held against each other.
func modelPlan(l []api.Deed) bool {
	for i, deed := range l {
		if deed.Kind < 1 || deed.Kind > 4 || !modelPath(deed.Path) || deed.Kind != 4 && deed.Data != "" {
			return false
		}
		var same []int
		for j, other := range l {
			if j < i && other.Kind > deed.Kind {
				return false
			}
			if other.Path == deed.Path {
				same = append(same, other.Kind)
			}
		}
		slices.Sort(same)
		if len(same) > 1 && !slices.Equal(same, []int{1, 3}) && !slices.Equal(same, []int{2, 4}) {
			return false
		}
	}
	return true
}

// modelText is a plan's text, by the chapter's words.
func modelText(l []api.Deed) string {
	s := "plan\n"
	for _, deed := range l {
		s += map[int]string{1: "unlink ", 2: "rmdir ", 3: "mkdir ", 4: "put "}[deed.Kind] + deed.Path
		if deed.Kind == 4 && deed.Data == "" {
			s += " -"
		} else if deed.Kind == 4 {
			s += fmt.Sprintf(" %x", deed.Data)
		}
		s += "\n"
	}
	return s
}

// modelParse reads a text by forms for the whole and for its lines.
func modelParse(s string) ([]api.Deed, api.Errno) {
	if !textForm.MatchString(s) {
		return nil, api.ErrLine
	}
	lines := strings.SplitAfter(s, "\n")
	if lines[0] != "plan\n" {
		return nil, api.ErrPlan
	}
	var l []api.Deed
	for _, line := range lines[1 : len(lines)-1] {
		m := lineForm.FindStringSubmatch(strings.TrimSuffix(line, "\n"))
		if m == nil {
			return nil, api.ErrPlan
		}
		if m[1] == "" {
			data, _ := hex.DecodeString(strings.TrimPrefix(m[4], "-"))
			l = append(l, put(m[3], string(data)))
			continue
		}
		l = append(l, api.Deed{Kind: map[string]int{"unlink": 1, "rmdir": 2, "mkdir": 3}[m[1]], Path: m[2]})
	}
	if !modelPlan(l) {
		return nil, api.ErrPlan
	}
	return l, api.OK
}

// source is numbers that look like chance, and are the same each time.
type source uint64

func (s *source) below(n int) int {
	*s = *s*6364136223846793005 + 1442695040888963407
	return int(uint64(*s) >> 33 % uint64(n))
}

// pick is one of a list.
func pick[T any](s *source, l []T) T { return l[s.below(len(l))] }

// bytes is up to so many bytes of any kind.
func (s *source) bytes(most int) string {
	var b []byte
	for range s.below(most + 1) {
		b = append(b, byte(s.below(256)))
	}
	return string(b)
}

// path is one of few paths, so that they meet often, or now and then one of those that lie at the edges.
func (s *source) path(edges []string) string {
	if s.below(40) == 0 {
		return pick(s, edges)
	}
	path := ""
	for range 1 + s.below(3) {
		path += "/" + pick(s, []string{"a", "a-", "a.b", "journal.x", "journals", "m"})
	}
	return path
}

// some is a plan: of each path the deeds that it may have.
func (s *source) some() []api.Deed {
	var l []api.Deed
	met := map[string]bool{}
	edges := goodPaths()
	for range s.below(20) {
		path := s.path(edges)
		if met[path] {
			continue
		}
		met[path] = true
		switch s.below(6) {
		case 0:
			l = append(l, unlink(path))
		case 1:
			l = append(l, rmdir(path))
		case 2:
			l = append(l, mkdir(path))
		case 3:
			l = append(l, put(path, s.bytes(5)))
		case 4:
			l = append(l, unlink(path), mkdir(path))
		case 5:
			l = append(l, rmdir(path), put(path, s.bytes(5)))
		}
	}
	slices.SortStableFunc(l, func(a, b api.Deed) int { return a.Kind - b.Kind })
	return l
}

// near is a plan with something changed, so that it is one no more, or still one.
func (s *source) near(l []api.Deed) []api.Deed {
	l = slices.Clone(l)
	if len(l) == 0 {
		return append(l, api.Deed{Kind: s.below(6), Path: s.path(badPaths()), Data: s.bytes(1)})
	}
	at, other := s.below(len(l)), s.below(len(l))
	switch s.below(6) {
	case 0:
		l[at].Kind += s.below(3) - 1
	case 1:
		l[at].Path = l[other].Path
	case 2:
		l[at].Path = pick(s, badPaths())
	case 3:
		l[at].Data = s.bytes(2)
	case 4:
		l[at], l[other] = l[other], l[at]
	case 5:
		l = slices.Insert(l, at, l[other])
	}
	return l
}

// nearText is a text with some bytes changed, so that it is a plan's text no more, or still one.
func (s *source) nearText(text string) string {
	for range 1 + s.below(2) {
		at := s.below(len(text) + 1)
		more := pick(s, []string{"", " ", "\n", "-", "a", "0", "A", "/", " -", " 00", "put ", "mkdir", "plan\n", "unlink /a\n", "put /m 41\n", "\x00", "\xff", "\r\n"})
		text = text[:at] + more + text[min(len(text), at+s.below(3)):]
	}
	return text
}
