package journal_test

import (
	"fmt"
	"slices"
	"strings"
	"testing"

	"halyard/api"
	"halyard/disk"
	"halyard/journal"
	"halyard/plan"
)

func dir(path string) api.File { return api.File{Path: path, Dir: true} }

func file(path, data string) api.File { return api.File{Path: path, Data: data} }

func files(l ...api.File) []api.File { return l }

func unlink(path string) api.Deed { return api.Deed{Kind: api.DeedUnlink, Path: path} }

func rmdir(path string) api.Deed { return api.Deed{Kind: api.DeedRmdir, Path: path} }

func mkdir(path string) api.Deed { return api.Deed{Kind: api.DeedMkdir, Path: path} }

func put(path, data string) api.Deed { return api.Deed{Kind: api.DeedPut, Path: path, Data: data} }

func deeds(l ...api.Deed) []api.Deed { return l }

// textOf is a plan's text.
func textOf(l ...api.Deed) string {
	s, e := plan.Print(l)
	if e != api.OK {
		panic(e)
	}
	return s
}

// flat is a value as a text that is not too long to tell.
func flat(v any) string {
	s := fmt.Sprintf("%+q", fmt.Sprintf("%+v", v))
	if len(s) > 1500 {
		return s[:1500] + " and so on"
	}
	return s
}

// byPath is a copy of files, rising by their paths.
func byPath(l []api.File) []api.File {
	l = slices.Clone(l)
	slices.SortFunc(l, func(a, b api.File) int { return strings.Compare(a.Path, b.Path) })
	return l
}

// with is files and some more, in a list of its own.
func with(l []api.File, more ...api.File) []api.File { return slices.Concat(l, more) }

// load is a disk with those files, which must be such that a disk may have them.
func load(t *testing.T, l []api.File) *disk.Disk {
	t.Helper()
	d, e := disk.Load(l)
	if e != api.OK {
		t.Fatalf("Load(%s): error %d", flat(l), e)
	}
	return d
}

// words is raw writes, each as a text.
func words(l []api.Raw) []string {
	var out []string
	for _, r := range l {
		s := []string{"", "mkdir", "write", "rename", "remove"}[r.Kind] + " " + r.Path
		if r.To != "" {
			s += " " + r.To
		}
		out = append(out, s)
	}
	return out
}

// committed is the raw writes of a Commit around those of its deeds.
func committed(of ...string) []string {
	return slices.Concat([]string{"mkdir /journal", "write /journal/plan.new", "rename /journal/plan.new /journal/plan"}, of, []string{"remove /journal/plan", "remove /journal"})
}

// call is a Commit, or a Recover.
type call func(d *disk.Disk) api.Errno

func commit(l ...api.Deed) call {
	return func(d *disk.Disk) api.Errno { return journal.Commit(d, l) }
}

// comesTo tells a fault unless a call on a disk with some files answers so, by those raw writes, and leaves those files.
func comesTo(t *testing.T, what string, before []api.File, do call, want api.Errno, after []api.File, raws ...string) {
	t.Helper()
	d := load(t, before)
	e := do(d)
	if e != want {
		t.Errorf("%s, on %s: error %d, not %d", what, flat(before), e, want)
	}
	if got := words(d.Raws()); !slices.Equal(got, raws) {
		t.Errorf("%s, on %s: the raw writes %s, not %s", what, flat(before), flat(got), flat(raws))
	}
	if got := d.All(); !slices.Equal(got, byPath(after)) {
		t.Errorf("%s, on %s: %s, not %s", what, flat(before), flat(got), flat(after))
	}
	if d.Down() {
		t.Errorf("%s: the power is off", what)
	}
}

// refuses tells a fault unless a call on a disk with some files answers that error, and changes nothing.
func refuses(t *testing.T, what string, before []api.File, do call, want api.Errno) {
	t.Helper()
	comesTo(t, what, before, do, want, before)
	// A cut that is to come is not changed, either.
	d := load(t, before)
	d.Cut(2)
	if e := do(d); e != want || d.Down() || len(d.Raws()) != 0 {
		t.Errorf("%s, on %s, with a cut to come: error %d, not %d, and the raw writes %s", what, flat(before), e, want, flat(words(d.Raws())))
	}
	d.Mkdir("/one")
	if d.Down() {
		t.Errorf("%s: a cut came nearer", what)
	}
	d.Mkdir("/two")
	if !d.Down() {
		t.Errorf("%s: a cut went farther", what)
	}
}

// longPath is a path of so many bytes.
func longPath(n int) string {
	var b strings.Builder
	for b.Len() < n {
		part := min(24, n-b.Len()-1)
		if n-b.Len()-1-part == 1 { // a part must be left behind the slash
			part--
		}
		b.WriteString("/" + strings.Repeat("p", part))
	}
	return b.String()
}

// above is all directories above a path, the highest first.
func above(path string) []api.File {
	var l []api.File
	for i := 1; i < len(path); i++ {
		if path[i] == '/' {
			l = append(l, dir(path[:i]))
		}
	}
	return l
}

// source is numbers that look like chance, and are the same each time.
type source uint64

func (s *source) below(n int) int {
	*s = *s*6364136223846793005 + 1442695040888963407
	return int(uint64(*s) >> 33 % uint64(n))
}

// pick is one of a list.
func pick[T any](s *source, l ...T) T { return l[s.below(len(l))] }

// some is files of few paths, so that those of two sets meet often.
func (s *source) some() []api.File {
	open := []string{""}
	met := map[string]bool{"/journal": true}
	var l []api.File
	for range s.below(14) {
		path := pick(s, open...) + "/" + pick(s, "a", "a-", "a.b", "b", "journal", "modules")
		if met[path] {
			continue
		}
		met[path] = true
		if s.below(2) == 0 {
			l = append(l, dir(path))
			open = append(open, path)
			continue
		}
		l = append(l, file(path, pick(s, "", "x", "y", "\x00\xff\n")))
	}
	return l
}
