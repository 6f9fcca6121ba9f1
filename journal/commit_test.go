package journal_test

import (
	"maps"
	"slices"
	"strconv"
	"strings"
	"testing"

	"halyard/api"
	"halyard/disk"
	"halyard/journal"
)

// The chapter's table of examples: a Commit.
func TestExampleCommit(t *testing.T) {
	comesTo(t, "Commit", files(file("/a", "x")), commit(put("/a", "y"), put("/b", "z")), api.OK, files(file("/a", "y"), file("/b", "z")),
		"mkdir /journal", "write /journal/plan.new", "rename /journal/plan.new /journal/plan", "write /a", "write /b", "remove /journal/plan", "remove /journal")
}

// The chapter's table of examples: the power goes.
func TestExampleCuts(t *testing.T) {
	before, l := files(file("/a", "x")), deeds(put("/a", "y"), put("/b", "z"))
	d := load(t, before)
	d.Cut(2)
	answers(t, "Commit", journal.Commit(d, l), api.ErrDown)
	d.Up()
	d.Clear()
	answers(t, "Recover", journal.Recover(d), api.OK)
	if !slices.Equal(d.All(), before) || !slices.Equal(words(d.Raws()), []string{"remove /journal/plan.new", "remove /journal"}) {
		t.Error("cut behind 2:", flat(d.All()), words(d.Raws()))
	}

	d = load(t, before)
	d.Cut(3)
	answers(t, "Commit", journal.Commit(d, l), api.ErrDown)
	d.Up()
	d.Cut(1)
	answers(t, "Recover", journal.Recover(d), api.ErrDown)
	d.Up()
	answers(t, "Recover", journal.Recover(d), api.OK)
	if !slices.Equal(d.All(), files(file("/a", "y"), file("/b", "z"))) {
		t.Error("cut behind 3, and 1:", flat(d.All()))
	}
}

// The chapter's table of examples: nothing is done.
func TestExampleNothing(t *testing.T) {
	before := files(file("/a", "x"))
	d := load(t, before)
	answers(t, "Commit of unlink /c", journal.Commit(d, deeds(unlink("/c"))), api.ErrPlan)
	answers(t, "Commit of none", journal.Commit(d, nil), api.OK)
	answers(t, "Recover", journal.Recover(d), api.OK)
	if !slices.Equal(d.All(), before) || len(d.Raws()) != 0 {
		t.Error(flat(d.All()), words(d.Raws()))
	}
}

func answers(t *testing.T, what string, got, want api.Errno) {
	t.Helper()
	if got != want {
		t.Errorf("%s: error %d, not %d", what, got, want)
	}
}

// P18.1: no disk, ahead of all else.
func TestCommitNoDisk(t *testing.T) {
	for _, l := range [][]api.Deed{nil, {}, deeds(put("/a", "")), deeds(mkdir("/A")), make([]api.Deed, 3)} {
		answers(t, "no disk", journal.Commit(nil, l), api.ErrArg)
	}
}

// atJournal is what may be at /journal.
func atJournal() map[string][]api.File {
	return map[string][]api.File{
		"a file":                 files(file("/journal", "x")),
		"a file without bytes":   files(file("/journal", "")),
		"a directory":            files(dir("/journal")),
		"one with a plan":        files(dir("/journal"), file("/journal/plan", textOf(put("/k", "")))),
		"one with a new plan":    files(dir("/journal"), file("/journal/plan.new", "")),
		"one with a strange one": files(dir("/journal"), dir("/journal/x"), file("/journal/x/y", "")),
	}
}

// P18.1: the power is off; ahead of what is on the disk, and of what the deeds are.
func TestCommitDown(t *testing.T) {
	for _, before := range append([][]api.File{nil, files(file("/a", "x"))}, slices.Collect(maps.Values(atJournal()))...) {
		for _, l := range [][]api.Deed{nil, deeds(put("/b", "y")), deeds(unlink("/none")), deeds(mkdir("/A"))} {
			d := load(t, before)
			d.Cut(0)
			answers(t, "the power is off", journal.Commit(d, l), api.ErrDown)
			if !slices.Equal(d.All(), byPath(before)) || len(d.Raws()) != 0 || !d.Down() {
				t.Error("the power is off:", flat(d.All()), words(d.Raws()))
			}
		}
	}
}

// P18.1: something is at /journal; ahead of what the deeds are.
func TestCommitThere(t *testing.T) {
	for what, before := range atJournal() {
		before = with(before, file("/a", "x"))
		refuses(t, what+", no deeds", before, commit(), api.ErrThere)
		refuses(t, what+", deeds", before, commit(unlink("/a"), mkdir("/b")), api.ErrThere)
		refuses(t, what+", deeds that can't be done", before, commit(unlink("/b")), api.ErrThere)
		refuses(t, what+", deeds that are no plan", before, commit(unlink("/")), api.ErrThere)
	}
	for _, name := range []string{"journals", "journal.", "journal-x", "journa", "plan", "plan.new"} {
		comesTo(t, "/"+name+" is not the journal", files(dir("/"+name)), commit(rmdir("/"+name), put("/"+name, "x")), api.OK, files(file("/"+name, "x")),
			committed("remove /"+name, "write /"+name)...)
	}
	comesTo(t, "a journal elsewhere", files(dir("/a"), dir("/a/journal")), commit(put("/a/journal/plan", "x")), api.OK, files(dir("/a"), dir("/a/journal"), file("/a/journal/plan", "x")),
		committed("write /a/journal/plan")...)
}

// P18.1: no deeds at all write nothing.
func TestNoDeeds(t *testing.T) {
	for _, before := range [][]api.File{nil, files(file("/a", "x")), files(dir("/a"), file("/a/b", ""))} {
		for _, none := range [][]api.Deed{nil, {}, make([]api.Deed, 0, 5), deeds(mkdir("/A"))[:0]} {
			refuses(t, "none", before, commit(none...), api.OK)
		}
	}
}

// P18.1: deeds that are no plan, though a disk could do them.
func TestNoPlan(t *testing.T) {
	before := files(file("/f", "x"), dir("/d"), dir("/e"), file("/e/f", ""))
	for what, l := range map[string][]api.Deed{
		"the zero deed":           {{}},
		"no kind":                 {{Kind: 5, Path: "/new"}},
		"no kind below":           {{Kind: -1, Path: "/new"}},
		"a kind that is less":     deeds(mkdir("/new"), unlink("/f")),
		"a put, then a mkdir":     deeds(put("/one", ""), mkdir("/new")),
		"twice":                   deeds(put("/new", "x"), put("/new", "x")),
		"unlink and put":          deeds(unlink("/f"), put("/f", "y")),
		"rmdir and mkdir":         deeds(rmdir("/d"), mkdir("/d")),
		"mkdir and put":           deeds(mkdir("/new"), put("/new", "")),
		"the root":                deeds(mkdir("/")),
		"no path":                 deeds(mkdir("/New")),
		"an empty path":           deeds(put("", "x")),
		"a path without a slash":  deeds(put("new", "x")),
		"a slash at the end":      deeds(mkdir("/new/")),
		"too long a path":         deeds(mkdir(longPath(api.MaxDiskPath + 1))),
		"the journal":             deeds(mkdir("/journal")),
		"the journal as a file":   deeds(put("/journal", "")),
		"the journal's plan":      deeds(put("/journal/plan", "")),
		"in the journal":          deeds(put("/journal/new", "")),
		"unlink with Data":        {{Kind: api.DeedUnlink, Path: "/f", Data: "x"}},
		"rmdir with Data":         {{Kind: api.DeedRmdir, Path: "/d", Data: "x"}},
		"mkdir with Data":         {{Kind: api.DeedMkdir, Path: "/new", Data: "x"}},
		"the last one":            deeds(unlink("/f"), rmdir("/d"), mkdir("/new"), put("/new/f", ""), put("/A", "")),
		"the first one":           deeds(unlink("/"), rmdir("/d"), mkdir("/new"), put("/new/f", "")),
		"no plan, nor to be done": deeds(unlink("/none"), unlink("/none")),
	} {
		refuses(t, what, before, commit(l...), api.ErrPlan)
	}
}

// P18.1: deeds that are a plan, and can't be done.
func TestCantBeDone(t *testing.T) {
	before := files(file("/f", "x"), dir("/d"), dir("/e"), file("/e/f", ""), dir("/g"), dir("/g/d"))
	for what, deed := range map[string]api.Deed{
		"an unlink that finds nothing":                 unlink("/none"),
		"an unlink that finds nothing, in a directory": unlink("/d/none"),
		"an unlink that finds nothing, in nothing":     unlink("/none/f"),
		"an unlink that finds nothing, in a file":      unlink("/f/f"),
		"an unlink that finds a directory":             unlink("/d"),
		"an unlink that finds one with something":      unlink("/e"),
		"an rmdir that finds nothing":                  rmdir("/none"),
		"an rmdir that finds nothing, in a directory":  rmdir("/d/none"),
		"an rmdir that finds nothing, in a file":       rmdir("/f/d"),
		"an rmdir that finds a file":                   rmdir("/f"),
		"an rmdir that finds a file, in a directory":   rmdir("/e/f"),
		"an rmdir of one with a file":                  rmdir("/e"),
		"an rmdir of one with a directory":             rmdir("/g"),
		"a mkdir that finds a file":                    mkdir("/f"),
		"a mkdir that finds a directory":               mkdir("/d"),
		"a mkdir that finds one with something":        mkdir("/e"),
		"a mkdir in nothing":                           mkdir("/none/d"),
		"a mkdir in nothing, far below":                mkdir("/d/none/d"),
		"a mkdir in a file":                            mkdir("/f/d"),
		"a mkdir below a file":                         mkdir("/f/d/d"),
		"a put that finds a directory":                 put("/d", ""),
		"a put that finds a directory, with bytes":     put("/d", "x"),
		"a put that finds one with something":          put("/e", "x"),
		"a put in nothing":                             put("/none/f", ""),
		"a put in nothing, with bytes":                 put("/none/f", "x"),
		"a put in nothing, far below":                  put("/d/none/f", "x"),
		"a put in a file":                              put("/f/f", "x"),
		"a put below a file":                           put("/f/f/f", "x"),
	} {
		refuses(t, what, before, commit(deed), api.ErrPlan)
		// Beside such as can be done, ahead and behind.
		l := deeds(unlink("/z"), rmdir("/y"), mkdir("/x"), put("/w", "w"), deed)
		slices.SortStableFunc(l, func(a, b api.Deed) int { return a.Kind - b.Kind })
		refuses(t, what+", among others", with(before, file("/z", ""), dir("/y")), commit(l...), api.ErrPlan)
	}
}

// P18.1: an earlier deed of the same plan makes that a later one can't be done.
func TestEarlierDeedsHinder(t *testing.T) {
	before := files(file("/f", "x"), dir("/d"), dir("/e"), file("/e/f", ""), dir("/e/d"))
	for what, l := range map[string][]api.Deed{
		"a directory is gone, and a mkdir in it":   deeds(rmdir("/d"), mkdir("/d/d")),
		"a directory is gone, and a put in it":     deeds(rmdir("/d"), put("/d/f", "")),
		"an inner one is gone, and a put in it":    deeds(rmdir("/e/d"), put("/e/d/f", "")),
		"a directory comes where a file is put":    deeds(mkdir("/d/n"), put("/d/n/f", ""), put("/e/d", "")),
		"a file comes, and a put in it":            deeds(put("/n", ""), put("/n/f", "")),
		"a directory becomes a file, a put in it":  deeds(rmdir("/d"), put("/d", ""), put("/d/f", "")),
		"the outer one first":                      deeds(unlink("/e/f"), rmdir("/e"), rmdir("/e/d")),
		"one of two is still in it":                deeds(unlink("/e/f"), rmdir("/e")),
		"the other of two is still in it":          deeds(rmdir("/e/d"), rmdir("/e")),
		"made in the wrong order":                  deeds(mkdir("/n/n"), mkdir("/n")),
		"a file goes, nothing comes, a put in it":  deeds(unlink("/f"), put("/f/f", "")),
		"a file goes, nothing comes, one is in it": deeds(unlink("/f"), mkdir("/f/d")),
		"a put that would need a later one":        deeds(put("/n/f", ""), put("/n", "")),
	} {
		refuses(t, what, before, commit(l...), api.ErrPlan)
	}
}

// P18.1: an earlier deed of the same plan makes that a later one can be done.
func TestEarlierDeedsMend(t *testing.T) {
	comesTo(t, "a file becomes a directory", files(file("/a", "x")), commit(unlink("/a"), mkdir("/a"), mkdir("/a/b"), put("/a/b/c", "y")), api.OK,
		files(dir("/a"), dir("/a/b"), file("/a/b/c", "y")), committed("remove /a", "mkdir /a", "mkdir /a/b", "write /a/b/c")...)
	comesTo(t, "a directory becomes a file", files(dir("/a")), commit(rmdir("/a"), put("/a", "x")), api.OK,
		files(file("/a", "x")), committed("remove /a", "write /a")...)
	comesTo(t, "a full one becomes a file", files(dir("/a"), file("/a/f", ""), dir("/a/b")), commit(unlink("/a/f"), rmdir("/a/b"), rmdir("/a"), put("/a", "")), api.OK,
		files(file("/a", "")), committed("remove /a/f", "remove /a/b", "remove /a", "write /a")...)
	comesTo(t, "a file goes, and its directory", files(dir("/a"), file("/a/f", "x"), file("/b", "y")), commit(unlink("/a/f"), rmdir("/a")), api.OK,
		files(file("/b", "y")), committed("remove /a/f", "remove /a")...)
	comesTo(t, "one in the other, and a file", nil, commit(mkdir("/a"), mkdir("/a/b"), mkdir("/a/b/c"), put("/a/b/c/f", "x")), api.OK,
		files(dir("/a"), dir("/a/b"), dir("/a/b/c"), file("/a/b/c/f", "x")), committed("mkdir /a", "mkdir /a/b", "mkdir /a/b/c", "write /a/b/c/f")...)
	comesTo(t, "not by their paths", nil, commit(mkdir("/z"), mkdir("/a"), put("/z/f", ""), put("/b", "x"), put("/a/f", "\x00")), api.OK,
		files(dir("/a"), file("/a/f", "\x00"), file("/b", "x"), dir("/z"), file("/z/f", "")), committed("mkdir /z", "mkdir /a", "write /z/f", "write /b", "write /a/f")...)
}

// P18.1: a put writes, unless just these bytes are there; all else of the journal is written all the same.
func TestPuts(t *testing.T) {
	every := make([]byte, 256)
	for i := range every {
		every[i] = byte(i)
	}
	texts := []string{"", "x", "xx", "y", "\x00", "-", "x\n", string(every), strings.Repeat("x", 1<<16)}
	for _, old := range texts {
		comesTo(t, "new", nil, commit(put("/f", old)), api.OK, files(file("/f", old)), committed("write /f")...)
		for _, now := range texts {
			if old == now {
				comesTo(t, "just these bytes", files(file("/f", old)), commit(put("/f", strings.Clone(now))), api.OK, files(file("/f", now)), committed()...)
				continue
			}
			comesTo(t, "other bytes", files(file("/f", old)), commit(put("/f", now)), api.OK, files(file("/f", now)), committed("write /f")...)
		}
	}
	comesTo(t, "some are there", files(file("/a", "1"), file("/b", "2"), file("/c", "3")), commit(put("/a", "1"), put("/b", "3"), put("/c", "3"), put("/d", "")), api.OK,
		files(file("/a", "1"), file("/b", "3"), file("/c", "3"), file("/d", "")), committed("write /b", "write /d")...)
	comesTo(t, "a directory becomes an empty file", files(dir("/a")), commit(rmdir("/a"), put("/a", "")), api.OK, files(file("/a", "")), committed("remove /a", "write /a")...)
}

// P18.1: the plan's text is in /journal/plan.new, then in /journal/plan, till all deeds are done.
func TestPlanOnDisk(t *testing.T) {
	before := files(dir("/d"), file("/f", "x"))
	l := deeds(unlink("/f"), rmdir("/d"), mkdir("/f"), put("/d", "A\xff"), put("/f/g", ""))
	text := "plan\nunlink /f\nrmdir /d\nmkdir /f\nput /d 41ff\nput /f/g -\n"
	for cut := range 11 {
		d := load(t, before)
		d.Cut(cut)
		journal.Commit(d, l)
		names, e := d.List("/journal")
		fresh, _ := d.Read("/journal/plan.new")
		whole, _ := d.Read("/journal/plan")
		switch {
		case cut == 0 || cut == 10:
			if e != api.ErrAbsent {
				t.Errorf("behind %d there is a journal: %s", cut, names)
			}
		case cut == 1 || cut == 9:
			if e != api.OK || len(names) != 0 {
				t.Errorf("behind %d: %s, error %d", cut, names, e)
			}
		case cut == 2:
			if len(names) != 1 || fresh != text {
				t.Errorf("behind %d: %s, %q", cut, names, fresh)
			}
		default:
			if len(names) != 1 || whole != text {
				t.Errorf("behind %d: %s, %q", cut, names, whole)
			}
		}
	}
}

// P18.1: one Commit behind the other, on one disk.
func TestCommitAgain(t *testing.T) {
	d := disk.New()
	for i := range 20 {
		path := "/p" + strconv.Itoa(i)
		answers(t, "mkdir", journal.Commit(d, deeds(mkdir(path), put(path+"/f", path))), api.OK)
		answers(t, "once more", journal.Commit(d, deeds(mkdir(path), put(path+"/f", path))), api.ErrPlan)
		answers(t, "only the file", journal.Commit(d, deeds(put(path+"/f", path))), api.OK)
		if i%2 == 0 {
			answers(t, "and gone", journal.Commit(d, deeds(unlink(path+"/f"), rmdir(path))), api.OK)
			answers(t, "and gone once more", journal.Commit(d, deeds(unlink(path+"/f"), rmdir(path))), api.ErrPlan)
		}
	}
	if len(d.All()) != 20 || d.Kind("/journal") != 0 {
		t.Error(flat(d.All()))
	}
}

// P18.1: all plans of up to four of a few deeds, on all small disks, held against the model.
func TestCommitAll(t *testing.T) {
	disks, done, refused := smallDisks(), 0, 0
	for _, l := range smallPlans(4) {
		for _, before := range disks {
			if commitsAsModel(t, before, l) {
				done++
			} else {
				refused++
			}
		}
	}
	if done < 500 || refused < 5000 {
		t.Error("too few:", done, "done,", refused, "refused")
	}
}
