package journal_test

import (
	"maps"
	"slices"
	"strings"
	"testing"

	"halyard/api"
	"halyard/disk"
	"halyard/journal"
)

// P18.2: no disk; the power is off, ahead of what is on the disk.
func TestRecoverNoDisk(t *testing.T) {
	answers(t, "no disk", journal.Recover(nil), api.ErrArg)
	for _, before := range append([][]api.File{nil, files(file("/a", "x"))}, slices.Collect(maps.Values(atJournal()))...) {
		d := load(t, before)
		d.Cut(0)
		answers(t, "the power is off", journal.Recover(d), api.ErrDown)
		if !slices.Equal(d.All(), byPath(before)) || len(d.Raws()) != 0 || !d.Down() {
			t.Error("the power is off:", flat(d.All()), words(d.Raws()))
		}
	}
}

// P18.2: nothing is at /journal: OK, and nothing is written.
func TestRecoverNothing(t *testing.T) {
	for _, before := range [][]api.File{
		nil, files(file("/a", "x")), files(dir("/a"), file("/a/b", "")), files(file("/plan", "plan\n"), file("/plan.new", "x")),
		files(dir("/journals"), file("/journals/plan", "x"), file("/journal.", "")), files(dir("/a"), dir("/a/journal"), file("/a/journal/plan", "plan\nmkdir /b\n")),
	} {
		refuses(t, "nothing is there", before, journal.Recover, api.OK)
	}
}

// inJournal is a disk's files with a journal's directory, and in it those.
func inJournal(more ...api.File) []api.File {
	return with(files(file("/a", "x"), dir("/d"), dir("/journal")), more...)
}

// P18.2: what is at /journal is no journal.
func TestRecoverNoJournal(t *testing.T) {
	whole, fresh := file("/journal/plan", "plan\nmkdir /b\n"), file("/journal/plan.new", "plan\nmkdir /b\n")
	for what, before := range map[string][]api.File{
		"a file":                            files(file("/journal", "x")),
		"a file with a plan's text":         files(file("/journal", whole.Data)),
		"a file without bytes":              files(file("/journal", "")),
		"a strange file":                    inJournal(file("/journal/x", "")),
		"a strange directory":               inJournal(dir("/journal/x")),
		"a strange file beside plan":        inJournal(whole, file("/journal/x", "")),
		"a strange file beside plan.new":    inJournal(fresh, file("/journal/a", "")),
		"a strange file beside both":        inJournal(whole, fresh, file("/journal/plan.", "")),
		"a strange directory beside plan":   inJournal(whole, dir("/journal/x")),
		"one that stands between":           inJournal(whole, fresh, file("/journal/plan.a", "")),
		"one that begins so":                inJournal(whole, fresh, file("/journal/plan.new.new", "")),
		"one that ends so":                  inJournal(whole, file("/journal/new", "")),
		"much that is strange":              inJournal(dir("/journal/x"), file("/journal/x/plan", "plan\n"), dir("/journal/journal")),
		"a directory plan":                  inJournal(dir("/journal/plan")),
		"a full directory plan":             inJournal(dir("/journal/plan"), file("/journal/plan/plan", "plan\n")),
		"a directory plan beside plan.new":  inJournal(dir("/journal/plan"), fresh),
		"a directory plan.new":              inJournal(dir("/journal/plan.new")),
		"a full directory plan.new":         inJournal(dir("/journal/plan.new"), dir("/journal/plan.new/plan")),
		"a directory plan.new beside plan":  inJournal(dir("/journal/plan.new"), whole),
		"both are directories":              inJournal(dir("/journal/plan.new"), dir("/journal/plan")),
		"a strange file beside what's none": inJournal(file("/journal/plan", "x"), file("/journal/x", "")),
	} {
		refuses(t, what, before, journal.Recover, api.ErrPlan)
	}
}

// noPlans is texts of no plan.
func noPlans() []string {
	return []string{
		"", "plan", "x", "x\n", "\n", "plan\n\n", "plan \n", "Plan\n", "plan\nplan\n", "mkdir /b\n", "plan\nmkdir /b", "plan\nmkdir  /b\n", "plan\nmkdir\n", "plan\nmkdir /b -\n", "plan\nput /b\n", "plan\nput /b 4\n", "plan\nput /b AB\n",
		"plan\nunlink /a x\n", "plan\nput /b -\nmkdir /c\n", "plan\nmkdir /\n", "plan\nmkdir /B\n", "plan\nmkdir /journal\n", "plan\nput /journal/plan -\n", "plan\nput /b -\nput /b -\n", "plan\nrename /a /b\n", "plan\nmkdir /b\n\x00", "\xff", strings.Repeat("x", 1<<16),
	}
}

// P18.2: plan is there, and is no plan's text: be it no lines, or lines of no plan.
func TestRecoverNoPlan(t *testing.T) {
	for _, text := range noPlans() {
		refuses(t, "no plan's text", inJournal(file("/journal/plan", text)), journal.Recover, api.ErrPlan)
		refuses(t, "no plan's text, beside a new one", inJournal(file("/journal/plan", text), file("/journal/plan.new", "plan\nmkdir /b\n")), journal.Recover, api.ErrPlan)
	}
}

// P18.2: only plan.new is there, or nothing: it is taken back, whatever its text is.
func TestRecoverTakesBack(t *testing.T) {
	after := files(file("/a", "x"), dir("/d"))
	comesTo(t, "neither", inJournal(), journal.Recover, api.OK, after, "remove /journal")
	for _, text := range append(noPlans(), "plan\n", "plan\nunlink /a\nrmdir /d\n", "plan\nunlink /none\n", "plan\nput /a 79\n") {
		comesTo(t, "only plan.new", inJournal(file("/journal/plan.new", text)), journal.Recover, api.OK, after, "remove /journal/plan.new", "remove /journal")
	}
}

// P18.2: plan is there: its deeds are done, and then it goes, plan.new behind it, whatever its text is.
func TestRecoverEnds(t *testing.T) {
	whole := file("/journal/plan", "plan\nunlink /a\nrmdir /d\nmkdir /a\nput /a/f 7a\nput /d -\n")
	after := files(dir("/a"), file("/a/f", "z"), file("/d", ""))
	done := []string{"remove /a", "remove /d", "mkdir /a", "write /a/f", "write /d"}
	comesTo(t, "only plan", inJournal(whole), journal.Recover, api.OK, after, append(slices.Clone(done), "remove /journal/plan", "remove /journal")...)
	for _, text := range append(noPlans(), "plan\n", "plan\nmkdir /b\n", whole.Data) {
		comesTo(t, "both", inJournal(whole, file("/journal/plan.new", text)), journal.Recover, api.OK, after, append(slices.Clone(done), "remove /journal/plan", "remove /journal/plan.new", "remove /journal")...)
	}
	comesTo(t, "a plan without deeds", inJournal(file("/journal/plan", "plan\n")), journal.Recover, api.OK, files(file("/a", "x"), dir("/d")), "remove /journal/plan", "remove /journal")
}

// P18.2: what was done already, or what is so already, is not written once more.
func TestRecoverDoneAlready(t *testing.T) {
	of := func(text string, before ...api.File) []api.File {
		return with(before, dir("/journal"), file("/journal/plan", "plan\n"+text))
	}
	ends := []string{"remove /journal/plan", "remove /journal"}
	for what, c := range map[string]struct {
		text  string
		there []api.File
	}{
		"an unlink":                         {"unlink /a\n", nil},
		"an unlink in what is not there":    {"unlink /a/b/c\n", nil},
		"an unlink in a file":               {"unlink /a/b\n", files(file("/a", ""))},
		"an unlink that finds a directory":  {"unlink /a\n", files(dir("/a"), file("/a/f", "x"))},
		"an rmdir":                          {"rmdir /a\n", nil},
		"an rmdir in what is not there":     {"rmdir /a/b\n", nil},
		"an rmdir that finds a file":        {"rmdir /a\n", files(file("/a", "x"))},
		"a mkdir":                           {"mkdir /a\n", files(dir("/a"))},
		"a mkdir that finds a full one":     {"mkdir /a\n", files(dir("/a"), file("/a/f", "x"))},
		"a mkdir that finds a file":         {"mkdir /a\n", files(file("/a", "x"))},
		"a put":                             {"put /a 78\n", files(file("/a", "x"))},
		"a put without bytes":               {"put /a -\n", files(file("/a", ""))},
		"a file that became a directory":    {"unlink /a\nmkdir /a\nput /a/f 78\n", files(dir("/a"), file("/a/f", "x"))},
		"a directory that became a file":    {"unlink /a/f\nrmdir /a\nput /a 78\n", files(file("/a", "x"))},
		"all of it, with others beside it":  {"unlink /k/f\nmkdir /a\nput /a/f 78\n", files(dir("/a"), file("/a/f", "x"), dir("/k"), file("/l", "x"))},
		"a mkdir that finds a file, a put ": {"mkdir /a\nput /b 78\n", files(file("/a", "x"), file("/b", "x"))},
	} {
		comesTo(t, what, of(c.text, c.there...), journal.Recover, api.OK, c.there, ends...)
	}
	comesTo(t, "half of it", of("unlink /a/f\nrmdir /a\nmkdir /b\nput /b/f 78\nput /c 79\n", dir("/a"), file("/c", "x")), journal.Recover, api.OK,
		files(dir("/b"), file("/b/f", "x"), file("/c", "y")), "remove /a", "mkdir /b", "write /b/f", "write /c", "remove /journal/plan", "remove /journal")
}

// P18.2: a deed can't be done: the disk's error; what was done ahead of it stays, and so does the journal.
func TestRecoverCantBeDone(t *testing.T) {
	there := files(file("/f", "x"), dir("/e"), file("/e/f", ""), dir("/g"), dir("/g/d"))
	for what, c := range map[string]struct {
		deed api.Deed
		want api.Errno
	}{
		"an rmdir of one with a file":         {rmdir("/e"), api.ErrUsed},
		"an rmdir of one with a directory":    {rmdir("/g"), api.ErrUsed},
		"a mkdir in nothing":                  {mkdir("/none/d"), api.ErrAbsent},
		"a mkdir in a file":                   {mkdir("/f/d"), api.ErrKind},
		"a mkdir below a file":                {mkdir("/f/d/d"), api.ErrAbsent},
		"a put in nothing":                    {put("/none/f", "x"), api.ErrAbsent},
		"a put in nothing, without bytes":     {put("/none/f", ""), api.ErrAbsent},
		"a put in a file":                     {put("/f/f", "x"), api.ErrKind},
		"a put that finds a directory":        {put("/e", "x"), api.ErrKind},
		"a put that finds one, without bytes": {put("/g/d", ""), api.ErrKind},
	} {
		for _, fresh := range [][]api.File{nil, files(file("/journal/plan.new", "x"))} {
			before := slices.Concat(there, files(dir("/journal"), file("/journal/plan", textOf(c.deed))), fresh)
			refuses(t, what, before, journal.Recover, c.want)

			// Those ahead of it are done, those behind it are not.
			l := deeds(unlink("/z"), rmdir("/y"), mkdir("/x"), put("/w", "w"))
			at := slices.IndexFunc(l, func(other api.Deed) bool { return other.Kind > c.deed.Kind })
			if at < 0 {
				at = len(l)
			}
			l = slices.Insert(l, at, c.deed)
			before = slices.Concat(there, files(file("/z", ""), dir("/y"), dir("/journal"), file("/journal/plan", textOf(l...))), fresh)
			m := modelOf(before)
			for _, deed := range l[:at] {
				m.deed(deed)
			}
			if len(m.moments) != at {
				t.Fatal(what, "is not set up well")
			}
			var raws []api.Raw
			for _, one := range m.moments {
				raws = append(raws, one.raw)
			}
			comesTo(t, what+", among others", before, journal.Recover, c.want, m.all(), words(raws)...)
			recoversAsModel(t, before)
		}
	}
}

// P18.2: asked once more, what can't be done is told once more, and nothing is written; mended, it is done.
func TestRecoverMended(t *testing.T) {
	d := load(t, files(dir("/journal"), file("/journal/plan", "plan\nmkdir /a\nput /a/f 78\nput /b/f 79\nput /c -\n")))
	answers(t, "first", journal.Recover(d), api.ErrAbsent)
	d.Clear()
	answers(t, "once more", journal.Recover(d), api.ErrAbsent)
	if len(d.Raws()) != 0 {
		t.Error(words(d.Raws()))
	}
	d.Mkdir("/b")
	d.Clear()
	answers(t, "mended", journal.Recover(d), api.OK)
	if !slices.Equal(words(d.Raws()), []string{"write /b/f", "write /c", "remove /journal/plan", "remove /journal"}) {
		t.Error(words(d.Raws()))
	}
	answers(t, "and once more", journal.Recover(d), api.OK)
	if !slices.Equal(d.All(), files(dir("/a"), file("/a/f", "x"), dir("/b"), file("/b/f", "y"), file("/c", ""))) {
		t.Error(flat(d.All()))
	}
}

// P18.2: where the power goes just ahead of a deed that can't be done, ErrDown is told.
func TestRecoverDownFirst(t *testing.T) {
	d := load(t, files(dir("/journal"), file("/journal/plan", "plan\nmkdir /a\nput /b/f 79\n")))
	d.Cut(1)
	answers(t, "the power went", journal.Recover(d), api.ErrDown)
	d.Up()
	d.Cut(1)
	answers(t, "it is on", journal.Recover(d), api.ErrAbsent)
}

// P18.2: all plans of up to three of a few deeds, on all small disks, with plan.new or without it, held against the model.
func TestRecoverAll(t *testing.T) {
	count := map[api.Errno]int{}
	disks := smallDisks()
	for _, l := range smallPlans(3) {
		for i, before := range disks {
			before = with(before, dir("/journal"), file("/journal/plan", textOf(l...)))
			if i%2 == 0 {
				before = append(before, file("/journal/plan.new", "x"))
			}
			count[recoversAsModel(t, before)]++
		}
	}
	for _, e := range []api.Errno{api.OK, api.ErrAbsent, api.ErrKind, api.ErrUsed} {
		if count[e] < 100 {
			t.Errorf("error %d: %d times", e, count[e])
		}
	}
}

// P18.2: any things in /journal, held against the model.
func TestRecoverAny(t *testing.T) {
	s := source(1)
	texts := append(noPlans(), "plan\n", "plan\nmkdir /a\n", "plan\nput /a 78\n", "plan\nunlink /a\n", "plan\nrmdir /a\nput /a -\n")
	count := map[api.Errno]int{}
	for range 3000 {
		before := append(s.some(), dir("/journal"))
		for _, name := range []string{"plan", "plan.new", "x", "plan.x"} {
			switch s.below(12) {
			case 0:
				if path := "/journal/" + name; s.below(2) == 0 {
					before = append(before, dir(path))
				} else {
					before = append(before, dir(path), file(path+"/y", ""))
				}
			case 1, 2, 3, 4, 5, 6:
				if strings.HasSuffix(name, "x") && s.below(4) > 0 {
					continue
				}
				before = append(before, file("/journal/"+name, pick(&s, texts...)))
			}
		}
		if _, e := disk.Load(before); e != api.OK {
			t.Fatal(flat(before))
		}
		count[recoversAsModel(t, before)]++
	}
	if count[api.OK] < 500 || count[api.ErrPlan] < 500 {
		t.Error(count)
	}
}
