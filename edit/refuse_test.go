package edit_test

import (
	"fmt"
	"math"
	"strings"
	"testing"

	"halyard/api"
	"halyard/catalog"
)

// P19.1: a name that is none, ahead of all else that a command asks.
func TestErrName(t *testing.T) {
	p := standing(t)
	for _, name := range append(noNames(), "") {
		for _, text := range []string{"*", "x", "", "<0.0.0"} {
			p.refuses(add(name, text, 0), api.ErrName)
			p.refuses(add(name, text, 3), api.ErrName)
			p.refuses(override(name, text), api.ErrName)
		}
		p.refuses(remove(name), api.ErrName)
		if name != "" {
			p.refuses(update(name), api.ErrName)
		}
	}
	// Names at the edges of what may be.
	c := published("a 1.0.0", "abcdefghijklmnop 1.0.0", "z-9 1.0.0")
	for _, name := range []string{"a", "abcdefghijklmnop", "z-9"} {
		p := begun(t, c)
		p.comesTo(add(name, "*", 0), 1, name+" 1.0.0")
		p.comesTo(update(name), 1, name+" 1.0.0")
		p.comesTo(override(name, "1.0.0"), 1, name+" 1.0.0")
		p.comesTo(remove(name), 0)
	}
}

// P19.1: no range, or one that has no version, ahead of Kind.
func TestErrRange(t *testing.T) {
	p := standing(t)
	for _, text := range noRanges() {
		for _, kind := range []int{0, 1, 2, 3, -1} {
			p.refuses(add("a", text, kind), api.ErrRange)
		}
		p.refuses(override("a", text), api.ErrRange)
		p.refuses(override("b", text), api.ErrRange)
	}
	// The empty text is no range's; to an override it says that there is none any more.
	for _, kind := range []int{0, 1, 2, 3, -1} {
		p.refuses(add("a", "", kind), api.ErrRange)
	}
	// As many spans as may be, and as long a text.
	p.refuses(add("a", singles(64), 0), api.ErrUnsat)
	p.refuses(override("a", singles(64)), api.ErrUnsat)
	p.does(add("a", "1.0.0"+strings.Repeat(" ", 4091), 0))
	p.wants("a range with blanks", "needs a 1.0.0; pins b *")
}

// P19.1: a Kind that is none, ahead of a manifest that would have too much.
func TestErrKind(t *testing.T) {
	p := standing(t)
	full := crowded(t)
	for _, kind := range []int{-1, -2, 3, 4, 256, 1 << 32, math.MinInt, math.MaxInt} {
		p.refuses(add("a", "*", kind), api.ErrArg)
		p.refuses(add("zz", "*", kind), api.ErrArg)
		full.refuses(add("zz", "*", kind), api.ErrArg)
	}
}

// crowded is a project with as many in each list as may be, of names with the letters k, l, m and o ahead.
func crowded(t *testing.T) *session {
	var texts []string
	for _, letter := range []string{"k", "l", "m", "z"} {
		for _, name := range names(letter, 16) {
			texts = append(texts, name+" 1.0.0")
		}
	}
	p := begun(t, published(texts...)).within(widest)
	for kind, letter := range []string{"k", "l", "m"} {
		for _, name := range names(letter, 16) {
			p.does(add(name, "*", kind))
		}
	}
	for _, name := range names("o", 16) {
		p.does(override(name, "*"))
	}
	return p
}

// P19.1: a manifest that would have too many.
func TestErrFull(t *testing.T) {
	p := crowded(t)
	for kind := range 3 {
		p.refuses(add("zz", "*", kind), api.ErrFull)
		p.refuses(add("z00", "*", kind), api.ErrFull)
		p.refuses(add("aa", "1.0.0", kind), api.ErrFull)
		// What is in that list already takes no more room, what is in another one does.
		for other, letter := range []string{"k", "l", "m"} {
			if other == kind {
				p.clone().does(add(letter+"05", "1.0.0", kind))
			} else {
				p.refuses(add(letter+"05", "1.0.0", kind), api.ErrFull)
			}
		}
	}
	p.refuses(override("zz", "*"), api.ErrFull)
	p.refuses(override("k00", "*"), api.ErrFull)
	p.clone().does(override("o07", "1.0.0"))
	p.clone().doesAll(override("o07", ""), override("zz", "1.0.0")).refuses(override("o07", "*"), api.ErrFull)
	p.clone().doesAll(remove("l07"), add("z00", "*", 1)).refuses(add("z01", "*", 1), api.ErrFull)
	// It comes ahead of what there is to be resolved.
	p.within(api.Limits{Decisions: 1, Nodes: 1, Dirs: 1, Path: 1}).refuses(add("zz", "*", 0), api.ErrFull)
	p.within(api.Limits{Decisions: 1, Nodes: 1, Dirs: 1, Path: 1}).refuses(override("zz", "*"), api.ErrFull)
}

// long is a range's text of just so many bytes, as it is written: versions of 7 to 11 bytes, no two of which touch.
func long(size int) string {
	var l []string
	for count := (size + 4 + 14) / 15; len(l) < count; {
		// All that are left have as many bytes as may be, but for this one.
		left := size - (count-len(l)-1)*15
		major := fmt.Sprint(100 + len(l))
		own := min(max(left, 7), 11)
		digits := own - len(major) - 2
		l = append(l, major+"."+strings.Repeat("1", digits-digits/2)+"."+strings.Repeat("1", digits/2))
		size -= own + len(" || ")
	}
	return strings.Join(l, " || ")
}

// P19.1: a manifest whose text would have too many bytes, by one.
func TestErrFullByBytes(t *testing.T) {
	c := published("a 1.0.0")
	texts := []string{"x0", "x1", "x2", "x3"}
	p := begun(t, c)
	for _, name := range texts {
		p.does(add(name, singles(60), 2))
	}
	// What is left of the 4096 bytes, for one line more with a name of one byte.
	used := len("project\n") + len(texts)*len("likes x0 "+singles(60)+"\n")
	for _, of := range []struct {
		word string
		step func(text string) api.Step
		want api.Errno
	}{
		{"needs a ", func(text string) api.Step { return add("a", text, 0) }, api.ErrUnsat},
		{"dev a ", func(text string) api.Step { return add("a", text, 1) }, api.ErrUnsat},
		{"likes a ", func(text string) api.Step { return add("a", text, 2) }, api.OK},
		{"pins a ", func(text string) api.Step { return override("a", text) }, api.OK},
	} {
		left := 4096 - used - len(of.word) - 1
		for _, more := range []int{-1, 0, 1, 2} {
			text := long(left + more)
			if len(text) != left+more {
				t.Fatal(len(text), left+more, text)
			}
			want := of.want
			if more > 0 {
				want = api.ErrFull
			}
			if _, a := p.asModel(of.step(text)); a.Code != want {
				t.Errorf("%swith %d bytes more than may be: error %d, not %d", of.word, more, a.Code, want)
			}
		}
	}
}

// P19.1: a remove of a name that none of the three has.
func TestErrWantOfRemove(t *testing.T) {
	p := begun(t, published("a 1.0.0; needs d *", "b 1.0.0", "c 1.0.0", "d 1.0.0", "e 1.0.0"))
	p.doesAll(add("a", "*", 0), add("b", "*", 1), add("c", "*", 2), override("e", "*"), override("a", "*"))
	for _, name := range []string{"d", "e", "zz", "aa"} {
		p.refuses(remove(name), api.ErrWant)
	}
	for _, name := range []string{"a", "b", "c"} {
		q := p.clone()
		q.does(remove(name))
		q.refuses(remove(name), api.ErrWant)
	}
	begun(t, catalog.New()).refuses(remove("a"), api.ErrWant)
}

// P19.1: an update of a name that no node has, be it wanted or not.
func TestErrWantOfUpdate(t *testing.T) {
	p := begun(t, published("a 1.0.0; needs d *", "b 1.0.0", "c 1.0.0", "d 1.0.0", "e 1.0.0"))
	p.doesAll(add("a", "*", 0), add("b", "*", 1), add("c", "9.0.0", 2), override("e", "*"))
	for _, name := range []string{"c", "e", "zz", "aa"} {
		p.refuses(update(name), api.ErrWant)
	}
	p.doesAll(update("a"), update("b"), update("d"), prune())
	// What was pruned is no node any more, though Dev has it.
	p.refuses(update("b"), api.ErrWant)
	begun(t, catalog.New()).refuses(update("a"), api.ErrWant)
}

// P19.1: an override with an empty Range, of a name without one.
func TestErrWantOfOverride(t *testing.T) {
	p := standing(t)
	for _, name := range []string{"a", "zz", "bb"} {
		p.refuses(override(name, ""), api.ErrWant)
	}
	p.does(override("b", ""))
	p.refuses(override("b", ""), api.ErrWant)
}

// P19.1: the error of resolve, behind all that commands ask.
func TestErrOfResolve(t *testing.T) {
	c := published("a 1.0.0; needs b *", "b 1.0.0", "b 2.0.0", "u 1.0.0; needs zz *")
	p := begun(t, c).doesAll(add("a", "*", 0))
	p.refuses(add("u", "*", 0), api.ErrUnsat)
	p.refuses(add("u", "*", 1), api.ErrUnsat)
	p.refuses(add("zz", "*", 0), api.ErrUnsat)
	p.refuses(add("a", "2.0.0", 0), api.ErrUnsat)
	p.refuses(override("b", "3.0.0"), api.ErrUnsat)
	p.clone().does(add("u", "*", 2))
	for _, x := range []api.Step{install(), add("a", "*", 0), update("a"), update(""), dedupe(), prune(), override("zz", "*")} {
		l := example
		l.Decisions = 1
		p.within(l).refuses(x, api.ErrBudget)
		l = example
		l.Nodes = 2
		p.within(l).refuses(x, api.ErrTooMany)
	}
	// A state that was right may be so no more: what it needs is gone.
	gone := begun(t, published("b 1.0.0"))
	gone.s = p.s
	for _, x := range []api.Step{install(), update("a"), update(""), dedupe(), prune(), add("b", "*", 0), override("b", "*")} {
		gone.refuses(x, api.ErrUnsat)
	}
	gone.comesTo(remove("a"), 0)
}

// P19.1: the error of place, behind that of resolve.
func TestErrOfPlace(t *testing.T) {
	c := published("a 1.0.0; needs b 1.0.0", "b 1.0.0", "b 2.0.0")
	p := begun(t, c).doesAll(add("a", "*", 0), add("b", "2.0.0", 0))
	p.has("b stands twice", "a 1.0.0", "a/b 1.0.0", "b 2.0.0")
	for _, x := range []api.Step{install(), add("a", "*", 0), update("a"), update(""), dedupe(), prune(), override("zz", "*")} {
		short, few, both := example, example, example
		short.Path = len("/modules/a/modules/b") - 1
		few.Dirs = 2
		p.within(short).refuses(x, api.ErrTooLong)
		p.within(few).refuses(x, api.ErrTooDeep)
		short.Path++
		few.Dirs++
		p.within(short).does(x)
		p.within(few).does(x)
		both.Path, both.Dirs, both.Decisions = 1, 1, 2
		p.within(both).refuses(x, api.ErrBudget)
		both.Decisions, both.Nodes = 100, 3
		p.within(both).refuses(x, api.ErrTooMany)
		both.Nodes = 20
		p.within(both).refuses(x, api.ErrTooLong)
	}
	tight := example
	tight.Path, tight.Dirs = 1, 1
	p.within(tight).refuses(add("zz", "*", 0), api.ErrUnsat)
	p.within(tight).refuses(remove("b"), api.ErrTooLong)
}
