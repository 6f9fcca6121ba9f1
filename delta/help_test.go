package delta_test

import (
	"fmt"
	"slices"
	"strings"
	"testing"

	"halyard/api"
	"halyard/delta"
	"halyard/disk"
)

func dir(path string) api.File { return api.File{Path: path, Dir: true} }

func file(path, data string) api.File { return api.File{Path: path, Data: data} }

func unlink(path string) api.Deed { return api.Deed{Kind: api.DeedUnlink, Path: path} }

func rmdir(path string) api.Deed { return api.Deed{Kind: api.DeedRmdir, Path: path} }

func mkdir(path string) api.Deed { return api.Deed{Kind: api.DeedMkdir, Path: path} }

func put(path, data string) api.Deed { return api.Deed{Kind: api.DeedPut, Path: path, Data: data} }

// dirs is directories at those paths; files is files without bytes.
func dirs(paths ...string) []api.File {
	var l []api.File
	for _, path := range paths {
		l = append(l, dir(path))
	}
	return l
}

func files(paths ...string) []api.File {
	var l []api.File
	for _, path := range paths {
		l = append(l, file(path, ""))
	}
	return l
}

// above is all directories above a path, the highest first.
func above(path string) []api.File {
	var l []api.File
	for i := 1; i < len(path); i++ {
		if path[i] == '/' {
			l = append(l, dir(path[:i]))
		}
	}
	return l
}

// longPath is a text of so many bytes, made as a path is, of parts of at most 24 bytes.
func longPath(n int) string {
	var b strings.Builder
	for b.Len() < n {
		part := min(24, n-b.Len()-1)
		if n-b.Len()-1-part == 1 { // a part must be left behind the slash
			part--
		}
		b.WriteString("/" + strings.Repeat("p", part))
	}
	return b.String()
}

// flat is a value as a text that is not too long to tell.
func flat(v any) string {
	s := fmt.Sprintf("%+v", v)
	if len(s) > 2000 {
		return s[:2000] + " and so on"
	}
	return s
}

// byPath is a copy of files, rising by their paths.
func byPath(l []api.File) []api.File {
	l = slices.Clone(l)
	slices.SortFunc(l, func(a, b api.File) int { return strings.Compare(a.Path, b.Path) })
	return l
}

// deedsOf is the deeds of sets that may be handed in.
func deedsOf(t *testing.T, before, after []api.File) []api.Deed {
	t.Helper()
	l, e := delta.Deeds(before, after)
	if e != api.OK {
		t.Fatalf("Deeds(%s, %s): error %d", flat(before), flat(after), e)
	}
	return l
}

// tells holds the deeds against those that the document asks for, and against all that follows of them.
func tells(t *testing.T, what string, before, after []api.File, want ...api.Deed) {
	t.Helper()
	got, e := delta.Deeds(before, after)
	if e != api.OK || !slices.Equal(got, want) {
		t.Errorf("%s: %s, error %d, not %s", what, flat(got), e, flat(want))
	}
	if model := modelDeeds(before, after); !slices.Equal(model, want) {
		t.Errorf("%s: the model tells %s, not %s", what, flat(model), flat(want))
	}
	follows(t, before, after, got)
}

// refuses tells a fault unless the sets are refused, and nothing is told beside it.
func refuses(t *testing.T, what string, before, after []api.File) {
	t.Helper()
	if l, e := delta.Deeds(before, after); e != api.ErrArg || l != nil {
		t.Errorf("%s: Deeds(%s, %s): %s, error %d", what, flat(before), flat(after), flat(l), e)
	}
}

// load is a disk with those files, which must be such that a disk may have them.
func load(t *testing.T, l []api.File) *disk.Disk {
	t.Helper()
	d, e := disk.Load(l)
	if e != api.OK {
		t.Fatalf("Load(%s): error %d", flat(l), e)
	}
	return d
}

// at is what a list has at a path: 0 nothing, 1 a file, 2 a directory; and the file.
func at(l []api.File, path string) (int, api.File) {
	for _, f := range l {
		if f.Path == path && f.Dir {
			return 2, f
		}
		if f.Path == path {
			return 1, f
		}
	}
	return 0, api.File{}
}

// modelDeeds is the deeds by the chapter's words: for each kind all paths are gone through, and looked for in both lists.
func modelDeeds(before, after []api.File) []api.Deed {
	var paths []string
	for _, f := range slices.Concat(before, after) {
		paths = append(paths, f.Path)
	}
	slices.Sort(paths)
	paths = slices.Compact(paths)
	var unlinks, rmdirs, mkdirs, puts []api.Deed
	for _, path := range paths {
		was, old := at(before, path)
		is, now := at(after, path)
		if was == 1 && is != 1 {
			unlinks = append(unlinks, unlink(path))
		}
		if was == 2 && is != 2 {
			rmdirs = append(rmdirs, rmdir(path))
		}
		if is == 2 && was != 2 {
			mkdirs = append(mkdirs, mkdir(path))
		}
		if is == 1 && (was != 1 || old.Data != now.Data) {
			puts = append(puts, put(path, now.Data))
		}
	}
	slices.Reverse(unlinks)
	slices.Reverse(rmdirs)
	return slices.Concat(unlinks, rmdirs, mkdirs, puts)
}

// source is numbers that look like chance, and are the same each time.
type source uint64

func (s *source) below(n int) int {
	*s = *s*6364136223846793005 + 1442695040888963407
	return int(uint64(*s) >> 33 % uint64(n))
}

// some is files of few paths, so that those of two sets meet often; they stand in any order.
func (s *source) some() []api.File {
	parts := []string{"a", "a-", "a.b", "a0", "aa", "b", "journal", "modules"}
	open := []string{""}
	var l []api.File
	for range s.below(30) {
		path := open[s.below(len(open))] + "/" + parts[s.below(len(parts))]
		if kind, _ := at(l, path); kind != 0 || path == "/journal" {
			continue
		}
		if s.below(2) == 0 {
			l = append(l, dir(path))
			open = append(open, path)
			continue
		}
		l = append(l, file(path, []string{"", "x", "y", "\x00\xff\n"}[s.below(4)]))
	}
	return s.shuffled(l)
}

// near is files that differ a little from others: some bytes are others, some files are gone, some have come.
func (s *source) near(l []api.File) []api.File {
	var out []api.File
	for _, f := range byPath(l) {
		parent := f.Path[:strings.LastIndex(f.Path, "/")]
		if up, _ := at(out, parent); up != 2 && parent != "" {
			continue
		}
		switch s.below(12) {
		case 0:
			continue
		case 1:
			f = dir(f.Path)
		case 2:
			f = file(f.Path, "z")
		}
		out = append(out, f)
		more := file(f.Path+"/new", "n")
		if there, _ := at(l, more.Path); f.Dir && there == 0 && s.below(12) == 0 {
			out = append(out, more)
		}
	}
	return s.shuffled(out)
}

func (s *source) shuffled(l []api.File) []api.File {
	var out []api.File
	for _, f := range l {
		out = slices.Insert(out, s.below(len(out)+1), f)
	}
	return out
}

// pair is two sets of files.
type pair struct{ before, after []api.File }

// pairs is pairs of sets that may be handed in, some near to each other.
func (s *source) pairs(count int) []pair {
	var l []pair
	for range count {
		one := s.some()
		l = append(l, pair{one, s.some()}, pair{one, s.near(one)}, pair{s.near(one), one})
	}
	return l
}
