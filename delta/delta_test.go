package delta_test

import (
	"slices"
	"strings"
	"testing"

	"halyard/api"
	"halyard/delta"
)

// P16.1: the chapter's example.
func TestExample(t *testing.T) {
	before := []api.File{dir("/a"), file("/a/f", "x"), file("/g", "y")}
	after := []api.File{dir("/a"), file("/a/f", "z"), dir("/g"), file("/g/h", "")}
	tells(t, "the example", before, after, unlink("/g"), mkdir("/g"), put("/a/f", "z"), put("/g/h", ""))
	tells(t, "the way back", after, before, unlink("/g/h"), rmdir("/g"), put("/a/f", "x"), put("/g", "y"))
}

// P16.1: no files at all, before, after, or both.
func TestNoFiles(t *testing.T) {
	some := []api.File{dir("/a"), file("/a/f", "x"), dir("/b"), file("/g", "")}
	for _, none := range [][]api.File{nil, {}, make([]api.File, 0, 5)} {
		tells(t, "none before", none, some, mkdir("/a"), mkdir("/b"), put("/a/f", "x"), put("/g", ""))
		tells(t, "none after", some, none, unlink("/g"), unlink("/a/f"), rmdir("/b"), rmdir("/a"))
		tells(t, "none at all", none, nil)
		tells(t, "none at all", nil, none)
		tells(t, "none at all", none, none)
	}
}

// P16.1, P16.3: of the same sets there are no deeds, however they are told.
func TestSameSets(t *testing.T) {
	s := source(1)
	for range 200 {
		l := s.some()
		tells(t, "the same list", l, l)
		tells(t, "the same set in another order", l, s.shuffled(l))
		tells(t, "the same set in another order", s.shuffled(l), byPath(l))
	}
	tells(t, "a file", files("/a"), files("/a"))
	tells(t, "a directory", dirs("/a"), dirs("/a"))
}

// P16.1: what may become of one path.
func TestOnePath(t *testing.T) {
	for _, path := range []string{"/a", "/manifest", "/journals", "/9", "/-", "/..."} {
		none, full, blank, other, folder := []api.File(nil), []api.File{file(path, "x")}, files(path), []api.File{file(path, "y")}, dirs(path)
		tells(t, "a file comes", none, full, put(path, "x"))
		tells(t, "a file without bytes comes", none, blank, put(path, ""))
		tells(t, "a directory comes", none, folder, mkdir(path))
		tells(t, "a file goes", full, none, unlink(path))
		tells(t, "a file without bytes goes", blank, none, unlink(path))
		tells(t, "a directory goes", folder, none, rmdir(path))
		tells(t, "other bytes", full, other, put(path, "y"))
		tells(t, "no bytes any more", full, blank, put(path, ""))
		tells(t, "bytes at last", blank, full, put(path, "x"))
		tells(t, "a file becomes a directory", full, folder, unlink(path), mkdir(path))
		tells(t, "a file without bytes becomes a directory", blank, folder, unlink(path), mkdir(path))
		tells(t, "a directory becomes a file", folder, full, rmdir(path), put(path, "x"))
		tells(t, "a directory becomes a file without bytes", folder, blank, rmdir(path), put(path, ""))
	}
}

// P16.1: bytes of any kind, told as they are.
func TestBytes(t *testing.T) {
	all := make([]byte, 256)
	for i := range all {
		all[i] = byte(i)
	}
	texts := []string{"", "x", "xx", "x\n", "\x00", "\x00\x00", "\xff", "\u00e9", "X", "y", string(all), strings.Repeat("long ", 100000), strings.Repeat("long ", 99999) + "lonG "}
	for i, old := range texts {
		for j, now := range texts {
			if i == j {
				tells(t, "the same bytes", []api.File{file("/f", old)}, []api.File{file("/f", strings.Clone(now))})
				continue
			}
			tells(t, "other bytes", []api.File{file("/f", old)}, []api.File{file("/f", now)}, put("/f", now))
		}
	}
}

// P16.1: a file with other bytes is put, and not unlinked; those around it are left alone.
func TestOtherBytes(t *testing.T) {
	before := []api.File{dir("/a"), file("/a/e", "x"), file("/a/f", "x"), file("/a/g", "x"), file("/f", "x")}
	after := []api.File{dir("/a"), file("/a/e", "x"), file("/a/f", "y"), file("/a/g", "x"), file("/f", "x")}
	tells(t, "one of many", before, after, put("/a/f", "y"))
	after = []api.File{dir("/a"), file("/a/e", "1"), file("/a/f", "2"), file("/a/g", "3"), file("/f", "")}
	tells(t, "all", before, after, put("/a/e", "1"), put("/a/f", "2"), put("/a/g", "3"), put("/f", ""))
	tells(t, "bytes change places", []api.File{file("/f", "x"), file("/g", "y")}, []api.File{file("/f", "y"), file("/g", "x")}, put("/f", "y"), put("/g", "x"))
	tells(t, "a file goes elsewhere", []api.File{file("/f", "x")}, []api.File{file("/g", "x")}, unlink("/f"), put("/g", "x"))
}

// P16.1: a path that is a file's before and a directory's after, with much in it; and the other way round.
func TestOtherKind(t *testing.T) {
	one := []api.File{file("/a", "x"), dir("/b"), file("/b/f", "y")}
	other := []api.File{dir("/a"), dir("/a/a"), file("/a/a/a", "z"), file("/a/f", "x"), file("/b", "y")}
	tells(t, "both at once", one, other, unlink("/b/f"), unlink("/a"), rmdir("/b"), mkdir("/a"), mkdir("/a/a"), put("/a/a/a", "z"), put("/a/f", "x"), put("/b", "y"))
	tells(t, "and back", other, one, unlink("/b"), unlink("/a/f"), unlink("/a/a/a"), rmdir("/a/a"), rmdir("/a"), mkdir("/b"), put("/a", "x"), put("/b/f", "y"))
	deep := []api.File{dir("/a"), dir("/a/b"), file("/a/b/c", "x")}
	turned := []api.File{dir("/a"), file("/a/b", "x")}
	tells(t, "inside of one that stays", deep, turned, unlink("/a/b/c"), rmdir("/a/b"), put("/a/b", "x"))
	tells(t, "inside of one that stays, and back", turned, deep, unlink("/a/b"), mkdir("/a/b"), put("/a/b/c", "x"))
}

// P16.1: directories one inside the other, and files in each, unlinked, removed and made.
func TestInsideOneAnother(t *testing.T) {
	deep := []api.File{dir("/a"), dir("/a/b"), dir("/a/b/c"), file("/a/b/c/f", "3"), file("/a/b/f", "2"), file("/a/f", "1")}
	tells(t, "they come", nil, deep, mkdir("/a"), mkdir("/a/b"), mkdir("/a/b/c"), put("/a/b/c/f", "3"), put("/a/b/f", "2"), put("/a/f", "1"))
	tells(t, "they go", deep, nil, unlink("/a/f"), unlink("/a/b/f"), unlink("/a/b/c/f"), rmdir("/a/b/c"), rmdir("/a/b"), rmdir("/a"))
	tells(t, "the inner ones go", deep, deep[:1], unlink("/a/f"), unlink("/a/b/f"), unlink("/a/b/c/f"), rmdir("/a/b/c"), rmdir("/a/b"))
	tells(t, "the inner ones come", deep[:1], deep, mkdir("/a/b"), mkdir("/a/b/c"), put("/a/b/c/f", "3"), put("/a/b/f", "2"), put("/a/f", "1"))
	tells(t, "a directory becomes empty", deep, deep[:3], unlink("/a/f"), unlink("/a/b/f"), unlink("/a/b/c/f"))
	moved := []api.File{dir("/b"), dir("/b/b"), file("/b/b/f", "2")}
	tells(t, "others come", deep, moved, unlink("/a/f"), unlink("/a/b/f"), unlink("/a/b/c/f"), rmdir("/a/b/c"), rmdir("/a/b"), rmdir("/a"), mkdir("/b"), mkdir("/b/b"), put("/b/b/f", "2"))
}

// P16.1: paths stand byte by byte: `-` and `.` stand ahead of `/`, digits and letters behind it.
func TestOrder(t *testing.T) {
	paths := []string{"/a", "/a-", "/a-/z", "/a-b", "/a.", "/a./z", "/a.b", "/a/-", "/a/.a", "/a/0", "/a/z", "/a0", "/a0/z", "/aa", "/aa/z", "/b"}
	if !slices.IsSorted(paths) {
		t.Fatal("they do not rise")
	}
	all := dirs(paths...)
	var made, removed []api.Deed
	for _, path := range paths {
		made = append(made, mkdir(path))
		removed = slices.Insert(removed, 0, rmdir(path))
	}
	tells(t, "directories come", nil, all, made...)
	tells(t, "directories go", all, nil, removed...)

	// With a file in each: in which directory it stands does not matter.
	full, inside := slices.Clone(all), []string(nil)
	for _, path := range paths {
		full = append(full, file(path+"/x", path))
		inside = append(inside, path+"/x")
	}
	slices.Sort(inside)
	var written, gone []api.Deed
	for _, path := range inside {
		written = append(written, put(path, strings.TrimSuffix(path, "/x")))
		gone = slices.Insert(gone, 0, unlink(path))
	}
	tells(t, "files come", all, full, written...)
	tells(t, "files go", full, all, gone...)
	tells(t, "all comes", nil, full, slices.Concat(made, written)...)
	tells(t, "all goes", full, nil, slices.Concat(gone, removed)...)
	tells(t, "few, one by one", []api.File{dir("/a"), file("/a/b", ""), file("/a-b", ""), file("/a0", "")}, nil,
		unlink("/a0"), unlink("/a/b"), unlink("/a-b"), rmdir("/a"))
}

// P16.1: the kinds stand one behind the other, whatever the paths.
func TestKinds(t *testing.T) {
	before := []api.File{file("/a", ""), dir("/z"), dir("/b"), file("/y", ""), file("/k", "1"), dir("/l")}
	after := []api.File{file("/z", "z"), dir("/a"), file("/c", "c"), dir("/x"), file("/k", "2"), dir("/l")}
	tells(t, "all kinds", before, after, unlink("/y"), unlink("/a"), rmdir("/z"), rmdir("/b"), mkdir("/a"), mkdir("/x"), put("/c", "c"), put("/k", "2"), put("/z", "z"))
	if got := []int{api.DeedUnlink, api.DeedRmdir, api.DeedMkdir, api.DeedPut}; !slices.Equal(got, []int{1, 2, 3, 4}) {
		t.Error("the kinds:", got)
	}
}

// P16.1, R5: lists of files in any order come to the same deeds.
func TestAnyOrder(t *testing.T) {
	s := source(2)
	for _, p := range s.pairs(100) {
		want := deedsOf(t, byPath(p.before), byPath(p.after))
		turned := byPath(p.after)
		slices.Reverse(turned)
		for _, after := range [][]api.File{turned, s.shuffled(p.after), s.shuffled(p.after)} {
			if got := deedsOf(t, s.shuffled(p.before), after); !slices.Equal(got, want) {
				t.Fatalf("%s, not %s", flat(got), flat(want))
			}
		}
	}
}

// P16.1: paths as long, and with as many parts, as a disk takes them.
func TestLongPaths(t *testing.T) {
	for _, path := range []string{longPath(api.MaxDiskPath - 1), longPath(api.MaxDiskPath), strings.Repeat("/a", api.MaxDiskPath/2)} {
		if len(path) > api.MaxDiskPath || len(path) < api.MaxDiskPath-1 {
			t.Fatal(len(path))
		}
		l := append(above(path), file(path, "deep"))
		var coming, going []api.Deed
		for _, f := range above(path) {
			coming = append(coming, mkdir(f.Path))
			going = slices.Insert(going, 0, rmdir(f.Path))
		}
		tells(t, "they come", nil, l, append(coming, put(path, "deep"))...)
		tells(t, "they go", l, nil, slices.Insert(going, 0, unlink(path))...)
		tells(t, "the last one changes", l, append(above(path), dir(path)), unlink(path), mkdir(path))
	}
}

// P16.1: a project to which a package is added: what stays is not touched, its directories and the modules around it neither.
func TestProject(t *testing.T) {
	before := []api.File{
		file("/lock", "lock 1\n"), file("/manifest", "project 1\n"), dir("/modules"),
		dir("/modules/a"), file("/modules/a/package", "package a 1.0.0\n"),
		dir("/modules/b"), file("/modules/b/package", "package b 1.2.0\n"),
	}
	after := append(slices.Clone(before),
		dir("/modules/c"), dir("/modules/c/modules"), dir("/modules/c/modules/b"), file("/modules/c/modules/b/package", "package b 2.0.0\n"), file("/modules/c/package", "package c 1.0.0\n"))
	after[0].Data, after[1].Data = "lock 2\n", "project 2\n"
	tells(t, "c is added", before, after,
		mkdir("/modules/c"), mkdir("/modules/c/modules"), mkdir("/modules/c/modules/b"),
		put("/lock", "lock 2\n"), put("/manifest", "project 2\n"), put("/modules/c/modules/b/package", "package b 2.0.0\n"), put("/modules/c/package", "package c 1.0.0\n"))
	tells(t, "c is removed", after, before,
		unlink("/modules/c/package"), unlink("/modules/c/modules/b/package"),
		rmdir("/modules/c/modules/b"), rmdir("/modules/c/modules"), rmdir("/modules/c"),
		put("/lock", "lock 1\n"), put("/manifest", "project 1\n"))
	tells(t, "nothing is changed", before, before)
}

// P16.1: all pairs of sets of a few paths, held against the model.
func TestAllPairs(t *testing.T) {
	sets := small()
	if len(sets) != 280 {
		t.Fatal("too few sets:", len(sets))
	}
	for _, before := range sets {
		for _, after := range sets {
			want := modelDeeds(before, after)
			if got, e := delta.Deeds(before, after); e != api.OK || !slices.Equal(got, want) {
				t.Fatalf("Deeds(%s, %s): %s, error %d, not %s", flat(before), flat(after), flat(got), e, flat(want))
			}
		}
	}
}

// P16.1: pairs of any sets, held against the model.
func TestManyPairs(t *testing.T) {
	s := source(3)
	kinds := map[int]int{}
	for _, p := range s.pairs(1500) {
		want := modelDeeds(p.before, p.after)
		got := deedsOf(t, p.before, p.after)
		if !slices.Equal(got, want) {
			t.Fatalf("Deeds(%s, %s): %s, not %s", flat(p.before), flat(p.after), flat(got), flat(want))
		}
		for _, deed := range got {
			kinds[deed.Kind]++
		}
	}
	for kind := api.DeedUnlink; kind <= api.DeedPut; kind++ {
		if kinds[kind] < 1000 {
			t.Errorf("too few of kind %d: %d", kind, kinds[kind])
		}
	}
}

// small is all sets of a few paths that may be handed in.
func small() [][]api.File {
	sets := [][]api.File{nil}
	for _, path := range []string{"/a", "/a-", "/a-/b", "/a/b", "/a/b/c", "/a0"} {
		parent := path[:strings.LastIndex(path, "/")]
		for _, l := range sets {
			if up, _ := at(l, parent); up != 2 && parent != "" {
				continue
			}
			for _, f := range []api.File{dir(path), file(path, ""), file(path, "x")} {
				sets = append(sets, append(slices.Clone(l), f))
			}
		}
	}
	return sets
}
