package plan_test

import (
	"slices"
	"strings"
	"testing"
	"unsafe"

	"halyard/api"
	"halyard/plan"
)

// R1: every call ends, and none panics, at all arguments; what is refused tells nothing (R2).
func TestEveryCallEnds(t *testing.T) {
	s := source(7)
	for range 3000 {
		var l []api.Deed
		for range s.below(5) {
			l = append(l, api.Deed{Kind: s.below(8) - 2, Path: s.bytes(10), Data: s.bytes(3)})
		}
		if len(l) == 0 || s.below(2) == 0 {
			l = append(l, api.Deed{Kind: 1 + s.below(4), Path: pick(&s, badPaths())})
		}
		refused(t, "any deeds", l)
		whole := s.bytes(30)
		if s.below(2) == 0 {
			whole = "plan\n" + whole
		}
		if got, e := plan.Parse(whole); e != api.OK && (got != nil || e != api.ErrLine && e != api.ErrPlan) {
			t.Fatalf("Parse(%q): %s, error %d", whole, flat(got), e)
		}
	}
}

// R2: beside an error there is nothing, even where much was read ahead of it.
func TestNothingBesideErrors(t *testing.T) {
	s := source(8)
	for range 1000 {
		l := s.some()
		whole := modelText(l)
		refused(t, "a deed too many", append(slices.Clone(l), mkdir("/")))
		notRead(t, whole+"put /z 0\n", api.ErrPlan)
		notRead(t, whole+"put /journal -\n", api.ErrPlan)
		notRead(t, whole+"put /z 00", api.ErrLine)
		// Where both apply, that of the lines is told.
		notRead(t, whole+"put /z 0\nput", api.ErrLine)
	}
}

// R3: each deed has Kind and Path; Data is that of DeedPut alone.
func TestFields(t *testing.T) {
	l, e := plan.Parse(text("plan", "unlink /a", "rmdir /b", "mkdir /a", "put /b 00", "put /c -", "put /d 2d"))
	want := deeds(unlink("/a"), rmdir("/b"), mkdir("/a"), put("/b", "\x00"), put("/c", ""), put("/d", "-"))
	if e != api.OK || !slices.Equal(l, want) {
		t.Error(flat(l), e)
	}
	for _, deed := range l[:3] {
		if deed.Data != "" {
			t.Errorf("%+v", deed)
		}
	}
}

// roomy is deeds in memory of their own, their texts too, with spare room behind them that is marked.
func roomy(l []api.Deed) []api.Deed {
	out := make([]api.Deed, 0, len(l)+3)
	for _, deed := range l {
		out = append(out, api.Deed{Kind: deed.Kind, Path: strings.Clone(deed.Path), Data: strings.Clone(deed.Data)})
	}
	for i := range 3 {
		whole(out)[len(out)+i] = put("/mark", "mark")
	}
	return out
}

// whole is a list with its spare room.
func whole[T any](l []T) []T { return l[:cap(l)] }

// spoil writes over a list and its spare room.
func spoil(l []api.Deed) {
	for i := range whole(l) {
		whole(l)[i] = put("/spoilt", "spoilt")
	}
}

// R4: what is handed in stays as it was, its spare room too, be it taken or refused.
func TestHandedInStays(t *testing.T) {
	s := source(9)
	for range 500 {
		one := s.some()
		for _, l := range [][]api.Deed{one, s.near(one)} {
			l = roomy(l)
			want := slices.Clone(whole(l))
			plan.Check(l)
			text, _ := plan.Print(l)
			again, _ := plan.Parse(text)
			spoil(again)
			if !slices.Equal(whole(l), want) {
				t.Fatalf("what was handed in is changed: %s, not %s", flat(whole(l)), flat(want))
			}
		}
	}
}

// R4: what is told stays, whatever becomes of what was handed in, or of what was told later.
func TestAnswersStay(t *testing.T) {
	s := source(10)
	for range 500 {
		one := s.some()
		l, want := roomy(one), modelText(one)
		text, _ := plan.Print(l)
		first, _ := plan.Parse(text)
		second, _ := plan.Parse(text)
		spoil(l)
		spoil(second)
		plan.Parse(modelText(s.some()))
		if text != want || !slices.Equal(first, one) {
			t.Fatalf("what was told is changed: %q, %s", text, flat(first))
		}
	}
}

// R4: bytes that a text was made of may become others: neither the text nor what was read of it changes.
func TestBytesBehindTexts(t *testing.T) {
	room := []byte("plan\nmkdir /a\nput /b 41\n")
	text := unsafe.String(unsafe.SliceData(room), len(room))
	l, e := plan.Parse(text)
	for i := range room {
		room[i] = 'x'
	}
	if e != api.OK || !slices.Equal(l, deeds(mkdir("/a"), put("/b", "A"))) {
		t.Error(flat(l), e)
	}
	path, data := []byte("/b"), []byte("AB")
	printed, e := plan.Print(deeds(put(unsafe.String(unsafe.SliceData(path), 2), unsafe.String(unsafe.SliceData(data), 2))))
	path[1], data[0] = 'x', 'x'
	if e != api.OK || printed != "plan\nput /b 4142\n" {
		t.Errorf("%q, error %d", printed, e)
	}
}

// R4: the spare room of what is told has nothing in it.
func TestSpareRoom(t *testing.T) {
	s := source(11)
	for range 300 {
		l, e := plan.Parse(modelText(s.some()))
		if e != api.OK {
			t.Fatal(e)
		}
		for _, deed := range whole(l)[len(l):] {
			if deed != (api.Deed{}) {
				t.Fatalf("%s in the spare room", flat(deed))
			}
		}
	}
}

// memory is where a list, or a text, stands.
type memory struct {
	from, to uintptr
	what     string
}

func textAt(s string) memory {
	from := uintptr(unsafe.Pointer(unsafe.StringData(s)))
	return memory{from, from + uintptr(len(s)), s}
}

func listAt(l []api.Deed) memory {
	from := uintptr(unsafe.Pointer(unsafe.SliceData(l)))
	return memory{from, from + uintptr(cap(l))*unsafe.Sizeof(api.Deed{}), "a list"}
}

// memoryOf is where deeds and their texts stand.
func memoryOf(l []api.Deed) []memory {
	out := []memory{listAt(l)}
	for _, deed := range l {
		out = append(out, textAt(deed.Path), textAt(deed.Data))
	}
	return out
}

// R4: an answer shares no memory with what was handed in, nor with another answer; nor do two parts of one.
func TestSharesNothing(t *testing.T) {
	s := source(12)
	for range 200 {
		handed := roomy(s.some())
		one, e := plan.Print(handed)
		other, _ := plan.Print(handed)
		if e != api.OK {
			t.Fatal(e)
		}
		first, _ := plan.Parse(one)
		second, _ := plan.Parse(one)
		list := slices.Concat(memoryOf(handed), memoryOf(first), memoryOf(second), []memory{textAt(one), textAt(other)})
		list = slices.DeleteFunc(list, func(m memory) bool { return m.from == m.to })
		slices.SortFunc(list, func(a, b memory) int { return int(int64(a.from) - int64(b.from)) })
		for i, m := range list {
			if i > 0 && m.from < list[i-1].to {
				t.Fatalf("%q and %q share memory", list[i-1].what, m.what)
			}
		}
	}
}

// R5: the same is told again, whatever was asked in between, and however much spare room there is.
func TestSameAgain(t *testing.T) {
	s := source(13)
	var plans [][]api.Deed
	for range 60 {
		one := s.some()
		plans = append(plans, one, s.near(one))
	}
	for range 5 {
		for _, l := range plans {
			want := plan.Check(l)
			first, e := plan.Print(l)
			plan.Parse("plan\nput /a 0\n")
			second, f := plan.Print(roomy(l))
			if first != second || e != f || e != want || plan.Check(roomy(l)) != want {
				t.Fatalf("%s: %q, error %d, then %q, error %d", flat(l), first, e, second, f)
			}
		}
	}
}

// The numbers of the errors, kinds and limits that this layer tells.
func TestNumbers(t *testing.T) {
	if api.OK != 0 || api.ErrLine != 22 || api.ErrPlan != 44 || api.MaxDiskPath != 4096 {
		t.Error(api.OK, api.ErrLine, api.ErrPlan, api.MaxDiskPath)
	}
	if api.DeedUnlink != 1 || api.DeedRmdir != 2 || api.DeedMkdir != 3 || api.DeedPut != 4 {
		t.Error(api.DeedUnlink, api.DeedRmdir, api.DeedMkdir, api.DeedPut)
	}
}
