package project_test

import (
	"maps"
	"math"
	"slices"
	"testing"

	"halyard/api"
	"halyard/catalog"
	"halyard/disk"
	"halyard/image"
	"halyard/journal"
	"halyard/project"
)

// notOpened tells a fault unless an Open is refused by that error, with no project beside it.
func notOpened(t *testing.T, what string, d *disk.Disk, c *catalog.Catalog, l api.Limits, want api.Errno) {
	t.Helper()
	if p, e := project.Open(d, c, l); e != want || p != nil {
		t.Errorf("%s: error %d, not %d; %v", what, e, want, p)
	}
}

// untouched tells a fault unless a disk has just those files, and nothing was written to it.
func untouched(t *testing.T, what string, d *disk.Disk, l []api.File) {
	t.Helper()
	if got := d.All(); !slices.Equal(got, byPath(l)) || len(d.Raws()) != 0 {
		t.Errorf("%s: %s, %s", what, flat(got), words(d.Raws()))
	}
}

// built is a project with packages of all lists, one inside another, overrides and pruned.
func built(t *testing.T) *session {
	t.Helper()
	c := published("a 1.0.0; needs b ^1.0.0", "b 1.0.0", "b 1.2.0", "b 2.0.0", "c 1.0.0; needs b ^2.0.0; likes d *", "d 1.0.0; needs e *", "d 2.0.0; needs e 1.0.0", "e 1.0.0; needs d *", "e 1.1.0", "f 1.0.0")
	return begun(t, c).doesAll(add("a", "*", 0), add("c", "*", 2), add("f", "*", 1), override("d", "1.0.0"), add("e", "1.1.0", 0), prune())
}

// disks is files of each kind that an Open may meet; each has a recovery, or none.
func disks(t *testing.T) map[string][]api.File {
	files := built(t).d.All()
	return map[string][]api.File{
		"empty":                            nil,
		"a project's":                      files,
		"no project's":                     {file("/x", "")},
		"a project's, with a journal":      with(files, dir("/journal"), file("/journal/plan.new", "plan\n")),
		"a project's, with a plan":         with(files, dir("/journal"), file("/journal/plan", "plan\nput /pruned -\n")),
		"a project's, with no plan's text": with(files, dir("/journal"), file("/journal/plan", "")),
		"a file for a journal":             {file("/journal", "")},
	}
}

// P20.1: no disk, or no catalog, ahead of all else.
func TestOpenNothing(t *testing.T) {
	c := published(chapter()...)
	notOpened(t, "no disk", nil, c, example, api.ErrArg)
	notOpened(t, "no disk, no catalog", nil, nil, example, api.ErrArg)
	notOpened(t, "no disk, no limits", nil, c, api.Limits{}, api.ErrArg)
	for what, files := range disks(t) {
		d := load(t, files)
		notOpened(t, what+", no catalog", d, nil, example, api.ErrArg)
		untouched(t, what+", no catalog", d, files)
		d.Cut(0)
		notOpened(t, what+", no catalog, no power", d, nil, example, api.ErrArg)
		untouched(t, what+", no catalog, no power", d, files)
	}
}

// noLimits is limits that may not be: each of the four beyond its ends, the others at theirs.
func noLimits() []api.Limits {
	l := []api.Limits{{}, {Decisions: 4097, Nodes: 129, Dirs: 257, Path: 1025}}
	for i := range 4 {
		for _, x := range []api.Limits{least, example, greatest} {
			for _, n := range []int{0, []int{4097, 129, 257, 1025}[i], -1, math.MinInt, math.MaxInt} {
				*[]*int{&x.Decisions, &x.Nodes, &x.Dirs, &x.Path}[i] = n
				l = append(l, x)
			}
		}
	}
	return l
}

// P20.1: limits that may not be, ahead of what is on the disk and of the power.
func TestOpenNoLimits(t *testing.T) {
	c := published(chapter()...)
	for what, files := range disks(t) {
		for _, l := range noLimits() {
			d := load(t, files)
			notOpened(t, what+flat(l), d, c, l, api.ErrArg)
			untouched(t, what+flat(l), d, files)
			d.Cut(0)
			notOpened(t, what+flat(l)+", no power", d, c, l, api.ErrArg)
		}
	}
}

// P20.1: limits at both ends of what may be, each of the four.
func TestOpenEnds(t *testing.T) {
	p := built(t)
	for i := range 4 {
		for _, x := range []api.Limits{least, example, greatest} {
			for _, n := range []int{1, 2, []int{4095, 127, 255, 1023}[i], []int{4096, 128, 256, 1024}[i]} {
				*[]*int{&x.Decisions, &x.Nodes, &x.Dirs, &x.Path}[i] = n
				within(t, p.now, p.c, x)
				within(t, image.Empty(), p.c, x)
			}
		}
	}
}

// P20.1: a project is within the limits that it was opened with, not within others: a greater one is opened, and what comes of a Do is refused.
func TestOpenLimits(t *testing.T) {
	p := built(t)
	a := p.does(install())
	for i, want := range []api.Errno{api.ErrBudget, api.ErrTooMany, api.ErrTooDeep, api.ErrTooLong} {
		long := 0
		for _, path := range p.paths() {
			if p.d.Kind(path) == 2 {
				long = max(long, len(path))
			}
		}
		for less := range 2 {
			l := api.Limits{Decisions: a.Decisions, Nodes: a.Nodes, Dirs: a.Dirs, Path: long}
			*[]*int{&l.Decisions, &l.Nodes, &l.Dirs, &l.Path}[i] -= less
			q := within(t, p.now, p.c, l)
			if less == 0 {
				q.quiet(install())
				continue
			}
			q.refuses(install(), want)
		}
	}
}

// P20.1: the power is off; ahead of what is on the disk.
func TestOpenDown(t *testing.T) {
	c := published(chapter()...)
	for what, files := range disks(t) {
		d := load(t, files)
		d.Cut(0)
		for range 2 {
			notOpened(t, what+", no power", d, c, example, api.ErrDown)
			untouched(t, what+", no power", d, files)
		}
		if !d.Down() {
			t.Error(what, ": the power is back")
		}
	}
	notOpened(t, "a disk that was never made", &disk.Disk{}, c, example, api.ErrDown)
}

// P20.1: a journal whose recovery has an error, be the files a project's or not: that error goes up, and the disk is as a Recover leaves it.
func TestOpenRecoverFaults(t *testing.T) {
	p := built(t)
	plan := func(text string) []api.File {
		return []api.File{dir("/journal"), file("/journal/plan", lines(text))}
	}
	for what, x := range map[string]struct {
		files []api.File
		want  api.Errno
	}{
		"a file for a journal":            {[]api.File{file("/journal", "plan\n")}, api.ErrPlan},
		"something else in it":            {[]api.File{dir("/journal"), file("/journal/x", "")}, api.ErrPlan},
		"something else beside a plan":    {append(plan("plan"), file("/journal/x", "")), api.ErrPlan},
		"a directory for a plan":          {[]api.File{dir("/journal"), dir("/journal/plan")}, api.ErrPlan},
		"a directory for a new plan":      {[]api.File{dir("/journal"), dir("/journal/plan.new")}, api.ErrPlan},
		"no text":                         {[]api.File{dir("/journal"), file("/journal/plan", "")}, api.ErrPlan},
		"no line":                         {[]api.File{dir("/journal"), file("/journal/plan", "plan")}, api.ErrPlan},
		"no plan's text":                  {plan("plan; put /x"), api.ErrPlan},
		"a plan of the journal":           {plan("plan; put /journal/x -"), api.ErrPlan},
		"a directory that is not empty":   {append(plan("plan; rmdir /u"), dir("/u"), file("/u/f", "")), api.ErrUsed},
		"a directory in nothing":          {plan("plan; mkdir /u/v"), api.ErrAbsent},
		"a file in nothing":               {plan("plan; put /u/f -"), api.ErrAbsent},
		"a file in a file":                {append(plan("plan; put /u/f -"), file("/u", "")), api.ErrKind},
		"a file in a directory's place":   {append(plan("plan; put /u -"), dir("/u")), api.ErrKind},
		"the second deed that can't be":   {append(plan("plan; unlink /v; mkdir /u/v"), file("/v", "")), api.ErrAbsent},
		"behind one that was done before": {append(plan("plan; unlink /w; mkdir /v; put /u/f -"), dir("/v")), api.ErrAbsent},
	} {
		for _, files := range [][]api.File{x.files, with(p.d.All(), x.files...), with(x.files, file("/stray", ""))} {
			d, model := load(t, files), load(t, files)
			if e := journal.Recover(model); e != x.want {
				t.Fatalf("%s: Recover: error %d, not %d", what, e, x.want)
			}
			notOpened(t, what, d, p.c, p.l, x.want)
			if !slices.Equal(d.All(), model.All()) || !slices.Equal(d.Raws(), model.Raws()) {
				t.Errorf("%s: %s, %s", what, flat(d.All()), words(d.Raws()))
			}
		}
	}
}

// P20.1: what lies on the disk is no project's: refused, and nothing is written.
func TestOpenNoProject(t *testing.T) {
	p := built(t)
	files := p.d.All()
	// changed is the project's files with other bytes at a path.
	changed := func(path, data string) []api.File {
		l := slices.Clone(files)
		at := slices.IndexFunc(l, func(f api.File) bool { return f.Path == path })
		l[at].Data = data
		return l
	}
	strange := map[string][]api.File{
		"a file":                   {file("/x", "")},
		"a directory":              {dir("/modules")},
		"a manifest alone":         {file("/manifest", "project\n")},
		"a lock alone":             {file("/lock", "lock\nroot\n")},
		"the empty state's texts":  {file("/manifest", "project\n"), file("/lock", "lock\nroot\n")},
		"an empty pruned":          {file("/pruned", "")},
		"a file more":              with(files, file("/x", "")),
		"a directory more":         with(files, dir("/x")),
		"a package more":           with(files, dir("/modules/z"), file("/modules/z/package", "package z 1.0.0\n")),
		"modules with nothing":     with(files, dir("/modules/a/modules")),
		"a path like the journal":  with(files, dir("/journals")),
		"another package's bytes":  changed("/modules/a/package", "package a 1.0.1\n"),
		"a package's other text":   changed("/modules/b/package", "package b 1.2.0\n\n"),
		"no package":               changed("/modules/b/package", ""),
		"another manifest's bytes": changed("/manifest", "project"),
		"another lock's bytes":     changed("/lock", "lock\nroot\n"),
		"pruned with bytes":        changed("/pruned", "x"),
	}
	for _, gone := range []string{"/lock", "/manifest", "/modules/e/package", "/modules/a/package"} {
		strange["without "+gone] = slices.DeleteFunc(slices.Clone(files), func(f api.File) bool { return f.Path == gone })
	}
	for what, l := range strange {
		d := load(t, l)
		notOpened(t, what, d, p.c, p.l, api.ErrImage)
		untouched(t, what, d, l)
		// A cut that is to come changes nothing.
		d.Cut(1)
		notOpened(t, what, d, p.c, p.l, api.ErrImage)
		untouched(t, what, d, l)
		if d.Down() {
			t.Error(what, ": the power went")
		}
	}
}

// P20.1: whether it is a project is asked behind the recovery: of what that leaves.
func TestOpenBehindRecover(t *testing.T) {
	p := built(t)
	files := p.d.All()
	// A stray file that goes, and one that comes.
	d := load(t, with(files, file("/x", ""), dir("/journal"), file("/journal/plan", "plan\nunlink /x\n")))
	q, e := project.Open(d, p.c, p.l)
	if e != api.OK || !same(q.State(), p.now) || !slices.Equal(d.All(), files) {
		t.Errorf("a stray file goes: error %d, %s", e, flat(d.All()))
	}
	d = load(t, with(files, dir("/journal"), file("/journal/plan", "plan\nput /x -\n")))
	notOpened(t, "a stray file comes", d, p.c, p.l, api.ErrImage)
	if !slices.Equal(d.All(), byPath(with(files, file("/x", "")))) {
		t.Errorf("a stray file comes: %s", flat(d.All()))
	}
	// A plan that was not renamed is taken back, whatever it says.
	for _, text := range []string{"", "x", "plan\n", "plan\nput /x -\n"} {
		d = load(t, with(files, dir("/journal"), file("/journal/plan.new", text)))
		q, e = project.Open(d, p.c, p.l)
		if e != api.OK || !same(q.State(), p.now) || !slices.Equal(d.All(), files) {
			t.Errorf("%q: error %d, %s", text, e, flat(d.All()))
		}
	}
}

// P20.1: a disk of a project, and an empty one: the project that lies there, and nothing is written.
func TestOpenProject(t *testing.T) {
	states := map[string]api.State{"empty": image.Empty()}
	p := built(t)
	states["pruned"] = p.now
	p.does(install())
	states["installed"] = p.now
	p.does(override("d", ""))
	states["without overrides"] = p.now
	p.doesAll(remove("a"), remove("c"), remove("f"), remove("e"), prune())
	states["empty, but pruned"] = p.now
	p.does(override("zz", "*"))
	states["nothing but an override"] = p.now
	for what, s := range states {
		for _, c := range []*catalog.Catalog{p.c, catalog.New(), {}} {
			files := filesOf(t, s)
			d := load(t, files)
			q, e := project.Open(d, c, greatest)
			if e != api.OK || !same(q.State(), s) {
				t.Fatalf("%s: error %d", what, e)
			}
			untouched(t, what, d, files)
		}
	}
	if got := slices.Sorted(maps.Keys(states)); len(got) != 6 {
		t.Error(got)
	}
}

// P20.1, its way: a project keeps its disk, whose calls are its own.
func TestDiskPromoted(t *testing.T) {
	p := begun(t, published(chapter()...))
	p.does(add("a", "*", 0))
	if got, e := p.p.Read("/modules/b/package"); e != api.OK || got != "package b 1.2.0\n" || !slices.Equal(p.p.All(), p.d.All()) || !slices.Equal(p.p.Raws(), p.d.Raws()) {
		t.Error(got, e)
	}
	if p.p.Disk != p.d {
		t.Error("another disk")
	}
	p.p.Cut(0)
	if !p.d.Down() || !p.p.Down() {
		t.Error("the power is on")
	}
}
