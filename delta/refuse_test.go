package delta_test

import (
	"slices"
	"strings"
	"testing"

	"halyard/api"
	"halyard/delta"
	"halyard/disk"
)

// notTaken is lists that disk.Load does not take, and what is wrong with each.
func notTaken() map[string][]api.File {
	long := longPath(api.MaxDiskPath + 1)
	m := map[string][]api.File{
		"the zero file":                       make([]api.File, 1),
		"the root":                            dirs("/"),
		"the root as a file":                  files("/"),
		"the root beside others":              dirs("/a", "/", "/b"),
		"a directory twice":                   dirs("/a", "/a"),
		"a file twice":                        files("/a", "/a"),
		"a file twice, with other bytes":      {file("/a", "x"), file("/a", "y")},
		"a file that is a directory":          {file("/a", ""), dir("/a")},
		"a directory that is a file":          {dir("/a"), dir("/b"), file("/a", "x")},
		"a file without a parent":             files("/a/f"),
		"a directory without a parent":        dirs("/a/b"),
		"a parent without a parent":           {dir("/a/b"), file("/a/b/c", "")},
		"a parent that begins so":             {dir("/ab"), file("/a/b", "")},
		"a file in a file":                    files("/a", "/a/f"),
		"a directory in a file":               {dir("/a/b"), file("/a", "")},
		"a directory with Data":               {{Path: "/a", Dir: true, Data: "x"}},
		"a directory with Data beside others": {dir("/a"), {Path: "/a/b", Dir: true, Data: "\x00"}},
		"a path that is too long":             append(above(long), file(long, "")),
		"a long part":                         dirs("/" + strings.Repeat("x", 25)),
		"/journal/x without its parent":       files("/journal/x"),
	}
	for _, path := range []string{"", "a", "a/b", "//", "//a", "/a/", "/a//b", "/.", "/..", "/a/..", "/A", "/a b", "/a_b", "/a\n", "/a\x00", "/\xff", "/\u00e9", " /a", strings.Repeat("/", 5000), strings.Repeat("/a", 1<<18)} {
		m["the file "+path] = []api.File{dir("/a"), file(path, "x")}
		m["the directory "+path] = []api.File{dir("/a"), dir(path)}
	}
	return m
}

// P16.1: lists that disk.Load does not take, before alone, after alone, and both.
func TestNotTaken(t *testing.T) {
	some := []api.File{dir("/c"), file("/c/f", "x")}
	for what, l := range notTaken() {
		if _, e := disk.Load(l); e != api.ErrArg {
			t.Fatalf("%s: a disk takes it", what)
		}
		for _, other := range [][]api.File{nil, {}, some} {
			refuses(t, what+", before", l, other)
			refuses(t, what+", after", other, l)
		}
		refuses(t, what+", both", l, l)
		turned := slices.Clone(l)
		slices.Reverse(turned)
		refuses(t, what+", both, in another order", l, turned)
		refuses(t, what+", with others", slices.Concat(some, l), some)
		refuses(t, what+", with others", some, slices.Concat(l, some))
	}
}

// P16.1: a path /journal, and such as begin with /journal/, in either.
func TestJournal(t *testing.T) {
	some := []api.File{dir("/c"), file("/c/f", "x")}
	for what, l := range map[string][]api.File{
		"a file":                {file("/journal", "x")},
		"a file without bytes":  files("/journal"),
		"a directory":           dirs("/journal"),
		"a file in it":          {dir("/journal"), file("/journal/plan", "x")},
		"a file in it, ahead":   {file("/journal/plan.new", "x"), dir("/journal")},
		"a directory in it":     dirs("/journal", "/journal/a"),
		"far below":             {dir("/journal"), dir("/journal/a"), dir("/journal/a/b"), file("/journal/a/b/c", "")},
		"itself once more":      dirs("/journal", "/journal/journal"),
		"beside what is not it": {file("/journals", ""), dir("/journal"), file("/journal-", "")},
	} {
		load(t, l)
		for _, other := range [][]api.File{nil, {}, some, dirs("/journals")} {
			refuses(t, what+", before", l, other)
			refuses(t, what+", after", other, l)
		}
		refuses(t, what+", both the same", l, slices.Clone(l))
		refuses(t, what+", with others, ahead", slices.Concat(some, l), some)
		refuses(t, what+", with others, behind", some, slices.Concat(l, some))
	}
	refuses(t, "a file, then a directory", files("/journal"), dirs("/journal"))
	refuses(t, "a directory, then a file", dirs("/journal"), files("/journal"))
	refuses(t, "one in the other's stead", dirs("/journal"), notTaken()["a file twice"])
}

// P16.1: paths that are nearly the journal's are like any other.
func TestNearlyJournal(t *testing.T) {
	for _, name := range []string{"journals", "journal.x", "journal.", "journal-", "journal-x", "journal0", "journa", "j", "journalx", "ajournal", "plan", "plan.new"} {
		path := "/" + name
		tells(t, "a file comes", nil, files(path), put(path, ""))
		tells(t, "a file goes", files(path), nil, unlink(path))
		tells(t, "a directory goes, a file comes", dirs(path), files(path), rmdir(path), put(path, ""))
		full := []api.File{dir(path), file(path+"/plan", "x"), dir(path + "/journal"), file(path+"/journal/plan", "y")}
		tells(t, "much comes", nil, full, mkdir(path), mkdir(path+"/journal"), put(path+"/journal/plan", "y"), put(path+"/plan", "x"))
		tells(t, "much goes", full, nil, unlink(path+"/plan"), unlink(path+"/journal/plan"), rmdir(path+"/journal"), rmdir(path))
	}
	tells(t, "below another one", dirs("/a"), dirs("/a", "/a/journal", "/a/journal/b"), mkdir("/a/journal"), mkdir("/a/journal/b"))
}

// P16.1: just those are refused that the chapter names.
func TestSpoilt(t *testing.T) {
	s := source(4)
	bad := notTaken()
	var whats []string
	for what := range bad {
		whats = append(whats, what)
	}
	slices.Sort(whats)
	for i, p := range s.pairs(300) {
		if _, e := delta.Deeds(p.before, p.after); e != api.OK {
			t.Fatalf("Deeds(%s, %s): error %d", flat(p.before), flat(p.after), e)
		}
		more := s.shuffled(bad[whats[i%len(whats)]])
		if _, e := disk.Load(append(slices.Clone(p.before), more...)); e != api.OK {
			refuses(t, "spoilt before", append(slices.Clone(p.before), more...), p.after)
		}
		if _, e := disk.Load(append(slices.Clone(p.after), more...)); e != api.OK {
			refuses(t, "spoilt after", p.before, append(slices.Clone(p.after), more...))
		}
		refuses(t, "with a journal before", s.shuffled(append(slices.Clone(p.before), dir("/journal"))), p.after)
		refuses(t, "with a journal after", p.before, s.shuffled(append(slices.Clone(p.after), file("/journal", ""))))
	}
}
