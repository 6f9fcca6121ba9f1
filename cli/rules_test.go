package cli_test

import (
	"fmt"
	"math"
	"strings"
	"testing"

	"halyard/api"
)

// R1, R2, R6: every Do ends and none panics, whatever the step is; of a refusal all but Code is zero.
func TestAnyStep(t *testing.T) {
	s := source(6)
	// Such as may be stand there more often, or nothing would be done.
	texts := []string{"a", "b", "c", "zz", "*", "*", "*", "1.0.0", "", "a", "A", "zz", "*", "^1.0.0", " ", "\x00", "\xff\xfe", "a\nb", "/", "..", "journal", strings.Repeat("a", 17), strings.Repeat("*||", 1<<10), "\u00e9"}
	packages := append([]string{"package b 3.0.0\nneeds zz *\n", "package zz 1.0.0\nlikes a *\n", "package c 2.0.0\n", "package zz 1.0.0\n", "package a 1.0.0\n\n", "\n"}, texts...)
	numbers := []int{0, 1, 2, 0, 1, 2, 3, 3, 3, 3, 4, 5, 6, 7, 8, 9, 10, 10, 11, -1, 1 << 40, math.MinInt, math.MaxInt}
	codes := map[api.Errno]int{}
	p := begun(t, whole()...)
	for range 6000 {
		a := p.asks(api.Step{Op: pick(&s, numbers...), Name: pick(&s, texts...), Range: pick(&s, texts...), Kind: pick(&s, numbers...), Pack: pick(&s, packages...), N: pick(&s, numbers...)})
		if a.Code != api.OK && a != (api.Answer{Code: a.Code}) {
			t.Fatalf("%+v", a)
		}
		codes[a.Code]++
	}
	for _, want := range []api.Errno{api.OK, api.ErrOp, api.ErrName, api.ErrRange, api.ErrArg, api.ErrWant, api.ErrUnsat, api.ErrDown, api.ErrThere, api.ErrLine} {
		if codes[want] == 0 {
			t.Errorf("error %d never came: %v", want, codes)
		}
	}
}

// R1: great texts are refused soon enough, and nothing is written.
func TestGreatSteps(t *testing.T) {
	p := built(t)
	long := strings.Repeat("a", 1<<24)
	p.refuses(text(long), api.ErrText)
	p.refuses(text("package a 1.0.0\n"+strings.Repeat("needs a *\n", 1<<21)), api.ErrText)
	p.refuses(add(long, "*", 0), api.ErrName)
	p.refuses(remove(long), api.ErrName)
	p.refuses(update(long), api.ErrName)
	p.refuses(override(long, long), api.ErrName)
	p.refuses(add("a", long, 0), api.ErrRange)
	p.refuses(override("a", strings.Repeat("*||", 1<<22)), api.ErrRange)
	p.refuses(api.Step{Op: -7, Name: long, Range: long, Pack: long}, api.ErrOp)
	p.quiet(dedupe())
}

// R1: a great project, of a full catalog, is written, opened and ended soon enough, wherever the power goes.
func TestGreatProject(t *testing.T) {
	var packages []string
	for i := range 15 {
		for v := range 8 {
			l := fmt.Sprintf("f%02d %d.0.0", i, v+1)
			if i < 14 {
				l += fmt.Sprintf("; needs f%02d %d.0.0", i+1, (v*3+i)%8+1)
			}
			if i < 13 {
				l += fmt.Sprintf("; likes f%02d *", i+2)
			}
			packages = append(packages, l)
		}
	}
	p := within(t, greatest, packages...)
	for i := range 8 {
		p.does(add(fmt.Sprintf("f%02d", i), []string{"*", "3.0.0", "<=5.0.0"}[i%3], i%3))
	}
	if a := p.does(install()); a.Dirs < 100 {
		t.Error("too few directories:", a.Dirs)
	}
	for _, x := range []api.Step{prune(), override("f10", "<=4.0.0"), remove("f01"), install()} {
		for _, n := range []int{1, 2, 3, 40} {
			p.does(cut(n))
			p.asks(x)
			p.opens()
		}
		p.asks(x)
	}
}

// R5: sessions do not disturb one another, and come to the same by the same steps, whatever others are asked meanwhile.
func TestSideBySide(t *testing.T) {
	s := source(7)
	s.walks(t, 40, 20, true, func(p *session, x api.Step) {
		q := within(t, example, whole()...)
		q.asks(s.someStep(true, whole()))
		a := p.asks(x)
		q.asks(s.someStep(true, whole()))
		if len(p.done) == 20 {
			other := p.clone()
			other.answers(open(), p.asks(open()))
			other.answers(x, p.asks(x))
		}
		if a.Code != api.OK && a != (api.Answer{Code: a.Code}) {
			t.Fatalf("%+v", a)
		}
	})
}

// The limits, errors and steps of this layer.
func TestNumbers(t *testing.T) {
	if api.MaxDecisions != 4096 || api.MaxNodes != 128 || api.MaxDirs != 256 || api.MaxPath != 1024 || api.MaxPackages != 128 || api.MaxText != 4096 {
		t.Error("limits")
	}
	for i, got := range []int{api.StepPublish, api.StepInstall, api.StepAdd, api.StepRemove, api.StepUpdate, api.StepDedupe, api.StepPrune, api.StepOverride, api.StepCut, api.StepOpen} {
		if got != i+1 {
			t.Errorf("the step %d is %d", i+1, got)
		}
	}
	for want, got := range map[int]api.Errno{0: api.OK, 1: api.ErrArg, 11: api.ErrThere, 15: api.ErrDown, 24: api.ErrPack, 26: api.ErrFull, 51: api.ErrOp} {
		if int(got) != want {
			t.Errorf("the error %d is %d", want, got)
		}
	}
}
