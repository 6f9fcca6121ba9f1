package project_test

import (
	"math"
	"slices"
	"strings"
	"testing"

	"halyard/api"
	"halyard/catalog"
	"halyard/disk"
	"halyard/image"
	"halyard/project"
)

// R1, R2, R6: every Do ends and none panics, whatever the step is, and answers as edit does; an Open behind it finds the same.
func TestAnyStep(t *testing.T) {
	s := source(5)
	// Such as may be stand there more often, or nothing would be done.
	texts := []string{"a", "b", "c", "zz", "*", "*", "*", "1.0.0", "", "a", "A", "zz", "*", "^1.0.0", " ", "\x00", "\xff\xfe", "a\nb", "/", "..", "journal", strings.Repeat("a", 17), strings.Repeat("*||", 1<<10), "é"}
	numbers := []int{0, 1, 2, 0, 1, 2, 3, 3, 3, 3, 4, 5, 6, 7, 8, 9, 10, 11, -1, 1 << 40, math.MinInt, math.MaxInt}
	codes := map[api.Errno]int{}
	p := begun(t, published(whole()...))
	for range 4000 {
		x := api.Step{Op: pick(&s, numbers...), Name: pick(&s, texts...), Range: pick(&s, texts...), Kind: pick(&s, numbers...), Pack: pick(&s, texts...), N: pick(&s, numbers...)}
		codes[p.asks(x).Code]++
	}
	p.opens()
	for _, want := range []api.Errno{api.OK, api.ErrOp, api.ErrName, api.ErrRange, api.ErrArg, api.ErrWant, api.ErrUnsat} {
		if codes[want] == 0 {
			t.Errorf("error %d never came: %v", want, codes)
		}
	}
}

// R1: great texts are refused soon enough, and nothing is written.
func TestGreatSteps(t *testing.T) {
	p := built(t)
	long := strings.Repeat("a", 1<<24)
	p.refuses(add(long, "*", 0), api.ErrName)
	p.refuses(remove(long), api.ErrName)
	p.refuses(update(long), api.ErrName)
	p.refuses(override(long, long), api.ErrName)
	p.refuses(add("a", long, 0), api.ErrRange)
	p.refuses(override("a", strings.Repeat("*||", 1<<22)), api.ErrRange)
	p.quiet(dedupe())
}

// R1: a disk that is far too full, and one with far too much in a file, are refused soon enough.
func TestGreatDisks(t *testing.T) {
	var l []api.File
	for _, a := range names("x", 100) {
		l = append(l, dir("/"+a))
		for _, b := range names("y", 100) {
			l = append(l, file("/"+a+"/"+b, b))
		}
	}
	c := published(chapter()...)
	notOpened(t, "ten thousand files", load(t, l), c, example, api.ErrImage)
	long := strings.Repeat("needs a *\n", 1<<21)
	notOpened(t, "a great manifest", load(t, []api.File{file("/lock", "lock\nroot\n"), file("/manifest", "project\n"+long)}), c, example, api.ErrImage)
	notOpened(t, "a great lock", load(t, []api.File{file("/lock", "lock\n"+long), file("/manifest", "project\n")}), c, example, api.ErrImage)
	notOpened(t, "a great plan", load(t, []api.File{dir("/journal"), file("/journal/plan", "plan\n"+long)}), c, example, api.ErrPlan)
}

// R1: a catalog that was never made has nothing.
func TestZeroCatalog(t *testing.T) {
	d := disk.New()
	p, e := project.Open(d, &catalog.Catalog{}, example)
	if e != api.OK {
		t.Fatal(e)
	}
	for _, x := range some() {
		p.Do(x)
	}
	if a := p.Do(add("a", "*", 0)); a != (api.Answer{Code: api.ErrUnsat}) {
		t.Errorf("%+v", a)
	}
	// What is only liked may be missing, which is a decision, too.
	if a := p.Do(add("a", "*", 2)); a != (api.Answer{Decisions: 1, Nodes: 1}) {
		t.Errorf("%+v", a)
	}
}

// R2: the files were changed by someone who may not change them, so that the deeds can't be done: the journal's own number goes up, nothing is written, and the project has its state still.
func TestTamperedDisk(t *testing.T) {
	for what, k := range map[string]struct {
		change func(d *disk.Disk) api.Errno
		want   api.Errno
	}{
		"a journal":             {func(d *disk.Disk) api.Errno { return d.Mkdir("/journal") }, api.ErrThere},
		"a file for a journal":  {func(d *disk.Disk) api.Errno { return d.Write("/journal", "") }, api.ErrThere},
		"a package is gone":     {func(d *disk.Disk) api.Errno { return d.Remove("/modules/a/package") }, api.ErrPlan},
		"a directory is in use": {func(d *disk.Disk) api.Errno { return d.Write("/modules/a/x", "") }, api.ErrPlan},
	} {
		p := begun(t, published("a 1.0.0", "b 1.0.0"))
		p.doesAll(add("a", "*", 0), add("b", "*", 0))
		if e := k.change(p.d); e != api.OK {
			t.Fatalf("%s: error %d", what, e)
		}
		p.refusesLeaving(remove("a"), k.want, p.d.All())
		// It was no power that went, so nothing is lost.
		p.refusesLeaving(remove("zz"), api.ErrWant, p.d.All())
	}
}

// R5: projects on disks of their own do not disturb one another, and come to the same by the same steps.
func TestSideBySide(t *testing.T) {
	s := source(6)
	for range 30 {
		c := catalog.New()
		waiting := s.somePacks()
		first, second := within(t, image.Empty(), c, greatest), within(t, image.Empty(), c, greatest)
		third := within(t, image.Empty(), c, example)
		for range 10 {
			out := s.below(len(waiting) + 1)
			publish(c, waiting[:out]...)
			waiting = waiting[out:]
			x := s.someStep()
			a := first.asks(x)
			third.asks(s.someStep())
			if b := second.asks(x); b != a || !slices.Equal(first.d.All(), second.d.All()) {
				t.Fatalf("%s: %+v, and %+v", flat(x), a, b)
			}
		}
	}
}

// wide is packages that make a great project: each of 15 names has 8 versions, which need one of the next name each, and like any of the one behind that.
func wide() []string {
	l := names("f", 15)
	version := func(n int) string { return string(rune('1'+n)) + ".0.0" }
	var out []string
	for i, name := range l {
		for v := range 8 {
			text := name + " " + version(v)
			if i < 14 {
				text += "; needs " + l[i+1] + " " + version((v*3+i)%8)
			}
			if i < 13 {
				text += "; likes " + l[i+2] + " *"
			}
			out = append(out, text)
		}
	}
	return out
}

// R1, P20.3: a great project is written, opened and ended soon enough, wherever the power goes.
func TestGreatProject(t *testing.T) {
	p := within(t, image.Empty(), published(wide()...), greatest)
	for i, name := range names("f", 8) {
		p.does(add(name, []string{"*", "3.0.0", "<=5.0.0"}[i%3], i%3))
	}
	p.does(install())
	if len(p.now.Tree.Dirs) < 100 {
		t.Error("too few directories:", len(p.now.Tree.Dirs))
	}
	for _, x := range []api.Step{prune(), override("f10", "<=4.0.0"), remove("f01")} {
		k := askedOf(p, x)
		most := len(k.raws)
		for _, cut := range []int{1, 2, 3, 4, most / 2, most - 3, most - 2, most - 1, most} {
			l := k.done(cut).All()
			for _, more := range []int{0, 1, most / 3} {
				d, _ := k.again(l, more)
				l = d.All()
			}
			k.opened(l, cut)
		}
		p.does(x)
	}
	p.opens()
}

// The limits, errors and steps of this layer.
func TestNumbers(t *testing.T) {
	if api.MaxDecisions != 4096 || api.MaxNodes != 128 || api.MaxDirs != 256 || api.MaxPath != 1024 {
		t.Error("limits:", api.MaxDecisions, api.MaxNodes, api.MaxDirs, api.MaxPath)
	}
	if !slices.Equal([]api.Errno{api.OK, api.ErrArg, api.ErrThere, api.ErrAbsent, api.ErrKind, api.ErrUsed, api.ErrDown, api.ErrImage, api.ErrPlan, api.ErrWant, api.ErrOp}, []api.Errno{0, 1, 11, 12, 13, 14, 15, 43, 44, 50, 51}) {
		t.Error("errors")
	}
	if !slices.Equal([]int{api.StepInstall, api.StepAdd, api.StepRemove, api.StepUpdate, api.StepDedupe, api.StepPrune, api.StepOverride}, []int{2, 3, 4, 5, 6, 7, 8}) {
		t.Error("steps")
	}
}
