package plan_test

import (
	"math"
	"slices"
	"strconv"
	"strings"
	"testing"

	"halyard/api"
	"halyard/plan"
)

// P17.1: the chapter's examples.
func TestExamples(t *testing.T) {
	taken(t, "none", nil, "plan\n")
	taken(t, "all kinds", deeds(unlink("/a/f"), rmdir("/a"), mkdir("/b"), put("/b/g", "A\xff"), put("/h", "")), "plan\nunlink /a/f\nrmdir /a\nmkdir /b\nput /b/g 41ff\nput /h -\n")
	taken(t, "a file becomes a directory", deeds(unlink("/a"), mkdir("/a")), "plan\nunlink /a\nmkdir /a\n")
	taken(t, "a directory becomes a file", deeds(rmdir("/a"), put("/a", "")), "plan\nrmdir /a\nput /a -\n")
	refused(t, "a kind that is less", deeds(mkdir("/a"), unlink("/b")))
	refused(t, "a path twice", deeds(put("/a", ""), put("/a", "")))
	refused(t, "the journal's", deeds(put("/journal/x", "")))
	refused(t, "unlink and put", deeds(unlink("/a"), put("/a", "")))
	refused(t, "the root", deeds(mkdir("/")))
	refused(t, "no path", deeds(mkdir("/A")))
	refused(t, "Data", deeds(api.Deed{Kind: api.DeedUnlink, Path: "/a", Data: "x"}))
	refused(t, "no kind", deeds(api.Deed{Kind: 5, Path: "/a"}))
	for _, s := range []string{"", "plan\nput /a 4\n", "plan\nput /a AB\n", "plan\nmkdir /a -\n"} {
		notRead(t, s, api.ErrPlan)
	}
	notRead(t, "plan", api.ErrLine)
}

// P17.1: no deeds at all are a plan.
func TestNoDeeds(t *testing.T) {
	for _, none := range [][]api.Deed{nil, {}, make([]api.Deed, 0, 5), deeds(mkdir("/A"))[:0]} {
		taken(t, "none", none, "plan\n")
	}
}

// P17.1: a kind is 1 to 4, wherever the deed stands.
func TestKinds(t *testing.T) {
	for kind, word := range map[int]string{1: "unlink /a", 2: "rmdir /a", 3: "mkdir /a", 4: "put /a -"} {
		taken(t, "a kind alone", deeds(api.Deed{Kind: kind, Path: "/a"}), text("plan", word))
	}
	for _, kind := range []int{0, 5, -1, 6, 8, -4, 1 << 8, 1<<8 + 1, 1<<32 + 1, math.MinInt, math.MinInt + 1, math.MaxInt} {
		odd := api.Deed{Kind: kind, Path: "/odd"}
		refused(t, "alone", deeds(odd))
		refused(t, "first", deeds(odd, put("/a", "")))
		refused(t, "last", deeds(unlink("/a"), odd))
		refused(t, "amid", deeds(unlink("/a"), odd, put("/b", "")))
		refused(t, "twice", deeds(odd, api.Deed{Kind: kind, Path: "/other"}))
		refused(t, "with Data", deeds(put("/a", ""), api.Deed{Kind: kind, Path: "/odd", Data: "x"}))
	}
	refused(t, "the zero deed", make([]api.Deed, 1))
	refused(t, "zero deeds", make([]api.Deed, 3))
}

// all is all lists of up to so many of some things.
func all[T any](most int, of ...T) [][]T {
	lists, from := [][]T{nil}, 0
	for range most {
		to := len(lists)
		for _, l := range lists[from:to] {
			for _, one := range of {
				lists = append(lists, append(slices.Clone(l), one))
			}
		}
		from = to
	}
	return lists
}

// P17.1: no kind is less than the one ahead of it, whatever the paths.
func TestKindsRise(t *testing.T) {
	count := 0
	for _, kinds := range all(6, 1, 2, 3, 4) {
		var l []api.Deed
		for i, kind := range kinds {
			l = append(l, api.Deed{Kind: kind, Path: "/p" + strconv.Itoa(9-i)})
		}
		if slices.IsSorted(kinds) {
			count++
			taken(t, "rising", l, modelText(l))
			continue
		}
		refused(t, "falling", l)
	}
	if count != 210 {
		t.Error("lists that rise:", count)
	}
}

// P17.1: of which paths a deed of each kind may be.
func TestPaths(t *testing.T) {
	for kind := 1; kind <= 4; kind++ {
		for _, path := range goodPaths() {
			l := deeds(api.Deed{Kind: kind, Path: path})
			taken(t, "alone", l, modelText(l))
			l = deeds(unlink("/zz"), api.Deed{Kind: kind, Path: path}, put("/zzz", ""))
			taken(t, "amid", l, modelText(l))
		}
		for _, path := range badPaths() {
			bad := api.Deed{Kind: kind, Path: path}
			refused(t, "alone", deeds(bad))
			refused(t, "first", deeds(bad, put("/z", "")))
			refused(t, "last", deeds(unlink("/z"), bad))
		}
	}
	for _, path := range badPaths() {
		refused(t, "unlink and mkdir", deeds(unlink(path), mkdir(path)))
		refused(t, "rmdir and put", deeds(rmdir(path), put(path, "x")))
	}
}

// P17.1: each byte in a path.
func TestPathBytes(t *testing.T) {
	for b := range 256 {
		c := string([]byte{byte(b)})
		may := strings.Contains("abcdefghijklmnopqrstuvwxyz0123456789.-", c)
		for _, path := range []string{"/x" + c, "/" + c + "x", "/x" + c + "x", "/x/y" + c + "/z"} {
			l := deeds(mkdir(path))
			if may || c == "/" && path == "/x/x" {
				taken(t, "a byte", l, "plan\nmkdir "+path+"\n")
				continue
			}
			refused(t, "a byte", l)
		}
	}
}

// P17.1: how long a path, and its parts, may be.
func TestPathLengths(t *testing.T) {
	for n := range 60 {
		path := "/a/" + strings.Repeat("b", n) + "/c"
		if n > 0 && n <= 24 {
			taken(t, "a part", deeds(rmdir(path)), "plan\nrmdir "+path+"\n")
			continue
		}
		refused(t, "a part", deeds(rmdir(path)))
	}
	for n := api.MaxDiskPath - 30; n < api.MaxDiskPath+30; n++ {
		path := longPath(n)
		if len(path) != n {
			t.Fatal(len(path), n)
		}
		if n <= api.MaxDiskPath {
			taken(t, "a long path", deeds(put(path, "a")), "plan\nput "+path+" 61\n")
			continue
		}
		refused(t, "a long path", deeds(put(path, "a")))
	}
}

// P17.1: Data stands with DeedPut alone.
func TestData(t *testing.T) {
	for _, data := range []string{"x", "\x00", "\n", "-", " ", "plan\n", everyByte(), strings.Repeat("x", 1<<16)} {
		for kind := 1; kind <= 3; kind++ {
			refused(t, "alone", deeds(api.Deed{Kind: kind, Path: "/a", Data: data}))
			refused(t, "amid", deeds(unlink("/b"), api.Deed{Kind: kind, Path: "/a", Data: data}, put("/c", "")))
		}
		l := deeds(unlink("/b"), put("/a", data), put("/c", ""))
		taken(t, "put", l, modelText(l))
		refused(t, "unlink and mkdir", deeds(unlink("/a"), api.Deed{Kind: api.DeedMkdir, Path: "/a", Data: data}))
		refused(t, "rmdir and put", deeds(api.Deed{Kind: api.DeedRmdir, Path: "/a", Data: data}, put("/a", data)))
		l = deeds(rmdir("/a"), put("/a", data))
		taken(t, "rmdir and put", l, modelText(l))
	}
}

// P17.1: a path twice, in each pair of kinds, next to one another or not.
func TestPathTwice(t *testing.T) {
	for one := 1; one <= 4; one++ {
		for other := 1; other <= 4; other++ {
			first, second := api.Deed{Kind: one, Path: "/a"}, api.Deed{Kind: other, Path: "/a"}
			next := deeds(first, second)
			apart := deeds(first, api.Deed{Kind: one, Path: "/b"}, api.Deed{Kind: other, Path: "/a/a"}, second)
			if one == 1 && other == 3 || one == 2 && other == 4 {
				taken(t, "next to one another", next, modelText(next))
				taken(t, "apart", apart, modelText(apart))
				continue
			}
			refused(t, "next to one another", next)
			refused(t, "apart", apart)
		}
	}
	refused(t, "put with other bytes", deeds(put("/a", "x"), put("/a", "y")))
	refused(t, "put with bytes and without", deeds(put("/a", "x"), put("/a", "")))
	l := deeds(unlink("/a"), unlink("/b"), rmdir("/c"), rmdir("/d"), mkdir("/b"), mkdir("/a"), put("/c", "1"), put("/d", ""))
	taken(t, "several, each twice", l, text("plan", "unlink /a", "unlink /b", "rmdir /c", "rmdir /d", "mkdir /b", "mkdir /a", "put /c 31", "put /d -"))
}

// P17.1: a path three and four times is no plan, whatever the kinds.
func TestPathOften(t *testing.T) {
	for _, kinds := range all(5, 1, 2, 3, 4) {
		var l []api.Deed
		for _, kind := range kinds {
			l = append(l, api.Deed{Kind: kind, Path: "/a"})
		}
		if len(kinds) > 2 {
			refused(t, "a path often", l)
		}
	}
	refused(t, "unlink, mkdir and mkdir", deeds(unlink("/a"), mkdir("/a"), mkdir("/a")))
	refused(t, "unlink, unlink and mkdir", deeds(unlink("/a"), unlink("/a"), mkdir("/a")))
	refused(t, "unlink, rmdir, mkdir and put", deeds(unlink("/a"), rmdir("/a"), mkdir("/a"), put("/a", "")))
	refused(t, "unlink, mkdir and put", deeds(unlink("/a"), mkdir("/a"), put("/a", "")))
	refused(t, "unlink, rmdir and put", deeds(unlink("/a"), rmdir("/a"), put("/a", "")))
}

// P17.1: which deeds could be done on a disk does not matter: neither parents, nor the order of paths in a kind.
func TestNotDone(t *testing.T) {
	for _, l := range [][]api.Deed{
		deeds(mkdir("/a/b"), mkdir("/a")),
		deeds(rmdir("/a"), rmdir("/a/b")),
		deeds(unlink("/a"), unlink("/a/b")),
		deeds(put("/a", ""), put("/a/b", "")),
		deeds(put("/x/y/z", "")),
		deeds(unlink("/a"), rmdir("/a/b"), mkdir("/a/b/c"), put("/a/b/c/d", "")),
		deeds(mkdir("/b"), mkdir("/a"), mkdir("/c")),
		deeds(put("/b", ""), put("/a", ""), put("/c", "")),
	} {
		taken(t, "not done", l, modelText(l))
	}
}

// P17.1: all short lists of few deeds, held against the model.
func TestAllLists(t *testing.T) {
	var few []api.Deed
	for kind := range 6 {
		for _, path := range []string{"/a", "/b", "/journal", "/A"} {
			for _, data := range []string{"", "x"} {
				few = append(few, api.Deed{Kind: kind, Path: path, Data: data})
			}
		}
	}
	plans := 0
	for _, l := range all(3, few...) {
		want, s := api.ErrPlan, ""
		if modelPlan(l) {
			plans++
			want, s = api.OK, modelText(l)
		}
		got, e := plan.Print(l)
		if plan.Check(l) != want || e != want || got != s {
			t.Fatalf("%s: Check %d, Print %s, error %d, not %s, error %d", flat(l), plan.Check(l), flat(got), e, flat(s), want)
		}
	}
	if plans < 50 {
		t.Error("too few plans:", plans)
	}
}

// P17.1: many lists, plans and such as are nearly plans, held against the model.
func TestManyLists(t *testing.T) {
	s := source(1)
	plans, others := 0, 0
	for range 4000 {
		one := s.some()
		taken(t, "a plan", one, modelText(one))
		l := s.near(one)
		if modelPlan(l) {
			plans++
			taken(t, "still a plan", l, modelText(l))
		} else {
			others++
			refused(t, "no plan any more", l)
		}
		if t.Failed() {
			return
		}
	}
	if plans < 300 || others < 1000 {
		t.Error("plans:", plans, "others:", others)
	}
}
