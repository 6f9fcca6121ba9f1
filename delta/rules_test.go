package delta_test

import (
	"slices"
	"strconv"
	"strings"
	"testing"
	"unsafe"

	"halyard/api"
	"halyard/delta"
)

// R1: the call ends, and does not panic, at all arguments; what is refused tells nothing (R2).
func TestEveryCallEnds(t *testing.T) {
	lists := [][]api.File{nil, {}, make([]api.File, 3), dirs("/a"), files("/a"), files("/journal")}
	for _, l := range notTaken() {
		lists = append(lists, l)
	}
	for _, before := range lists {
		for _, after := range lists {
			if l, e := delta.Deeds(before, after); e != api.OK && (e != api.ErrArg || l != nil) {
				t.Fatalf("Deeds(%s, %s): %s, error %d", flat(before), flat(after), flat(l), e)
			}
		}
	}
}

// wide is so many directories, with a file in each.
func wide(count int, name, data string) []api.File {
	var l []api.File
	for i := range count {
		path := "/" + name + strconv.Itoa(i)
		l = append(l, file(path+"/f", data), dir(path))
	}
	return l
}

// R1: great sets are told soon enough.
func TestGreat(t *testing.T) {
	const count = 20000
	one, other := wide(count, "a", "x"), wide(count, "b", "x")
	if l := deedsOf(t, one, other); len(l) != 4*count {
		t.Error("all others:", len(l))
	}
	if l := deedsOf(t, one, wide(count, "a", "y")); len(l) != count {
		t.Error("other bytes:", len(l))
	}
	if l := deedsOf(t, one, wide(count, "a", "x")); len(l) != 0 {
		t.Error("the same:", len(l))
	}
	big := strings.Repeat("x", 1<<24)
	if l := deedsOf(t, []api.File{file("/f", big+"x")}, []api.File{file("/f", big+"y")}); len(l) != 1 || l[0].Data != big+"y" {
		t.Error("many bytes:", len(l))
	}
	refuses(t, "one too many", append(one, dir("/a7")), other)
	refuses(t, "one too many", other, append(wide(count, "c", ""), dir("/c7")))
}

// R3: each deed has Kind and Path; Data is that of DeedPut alone, even where a file with bytes goes, or becomes a directory.
func TestFields(t *testing.T) {
	before := []api.File{file("/a", "1"), file("/b", "2"), dir("/c"), file("/c/f", "3"), file("/d", "4")}
	after := []api.File{dir("/a"), file("/c", "5"), file("/d", "6")}
	tells(t, "bytes that go", before, after, unlink("/c/f"), unlink("/b"), unlink("/a"), rmdir("/c"), mkdir("/a"), put("/c", "5"), put("/d", "6"))
	s := source(9)
	for _, p := range s.pairs(200) {
		for _, deed := range deedsOf(t, p.before, p.after) {
			if deed.Path == "" || deed.Kind < api.DeedUnlink || deed.Kind > api.DeedPut || deed.Kind != api.DeedPut && deed.Data != "" {
				t.Fatalf("%+v", deed)
			}
		}
	}
}

// roomy is files in memory of their own, their texts too, with spare room behind them that is marked.
func roomy(l []api.File) []api.File {
	out := make([]api.File, 0, len(l)+3)
	for _, f := range l {
		out = append(out, api.File{Path: strings.Clone(f.Path), Dir: f.Dir, Data: strings.Clone(f.Data)})
	}
	for i := range 3 {
		out[:cap(out)][len(out)+i] = file("/mark", "mark")
	}
	return out
}

// whole is a list with its spare room.
func whole[T any](l []T) []T { return l[:cap(l)] }

// spoil writes over a list and its spare room.
func spoil[T any](l []T, with T) {
	for i := range whole(l) {
		whole(l)[i] = with
	}
}

// R4: what is handed in stays as it was, its spare room too, whoever writes into what was told; be it taken or refused.
func TestHandedInStays(t *testing.T) {
	s := source(10)
	pairs := s.pairs(150)
	for _, l := range notTaken() {
		pairs = append(pairs, pair{l, s.some()}, pair{s.some(), l})
	}
	pairs = append(pairs, pair{dirs("/journal", "/a"), s.some()}, pair{s.some(), dirs("/b", "/journal", "/a")})
	for _, p := range pairs {
		before, after := roomy(p.before), roomy(p.after)
		wantBefore, wantAfter := slices.Clone(whole(before)), slices.Clone(whole(after))
		l, _ := delta.Deeds(before, after)
		spoil(l, put("/spoilt", "spoilt"))
		if !slices.Equal(whole(before), wantBefore) || !slices.Equal(whole(after), wantAfter) {
			t.Fatalf("what was handed in is changed: %s, %s", flat(whole(before)), flat(whole(after)))
		}
	}
}

// R4: what is told stays, whatever becomes of what was handed in, or of what was told later.
func TestAnswersStay(t *testing.T) {
	s := source(11)
	for _, p := range s.pairs(150) {
		before, after := roomy(p.before), roomy(p.after)
		first := deedsOf(t, before, after)
		second := deedsOf(t, before, after)
		want := slices.Clone(whole(first))
		spoil(before, file("/spoilt", "spoilt"))
		spoil(after, file("/spoilt", "spoilt"))
		spoil(second, put("/spoilt", "spoilt"))
		deedsOf(t, p.after, p.before)
		if !slices.Equal(whole(first), want) {
			t.Fatalf("what was told is changed: %s, not %s", flat(first), flat(want))
		}
	}
}

// R4: the spare room of what is told has nothing in it.
func TestSpareRoom(t *testing.T) {
	s := source(12)
	for _, p := range s.pairs(150) {
		l := deedsOf(t, p.before, p.after)
		for _, deed := range whole(l)[len(l):] {
			if deed != (api.Deed{}) {
				t.Fatalf("%s in the spare room", flat(deed))
			}
		}
	}
}

// memory is where a list, or a text, stands.
type memory struct {
	from, to uintptr
	what     string
}

func textAt(s string) memory {
	from := uintptr(unsafe.Pointer(unsafe.StringData(s)))
	return memory{from, from + uintptr(len(s)), s}
}

func listAt[T any](l []T) memory {
	from := uintptr(unsafe.Pointer(unsafe.SliceData(l)))
	var one T
	return memory{from, from + uintptr(cap(l))*unsafe.Sizeof(one), "a list"}
}

// memoryOf is where deeds and their texts stand.
func memoryOf(l []api.Deed) []memory {
	out := []memory{listAt(l)}
	for _, deed := range l {
		out = append(out, textAt(deed.Path), textAt(deed.Data))
	}
	return out
}

// R4: an answer shares no memory with what was handed in, nor with another answer; nor do two parts of one.
func TestSharesNothing(t *testing.T) {
	s := source(13)
	for _, p := range append(s.pairs(60), pair{s.some(), nil}, pair{nil, s.some()}) {
		before, after := roomy(p.before), roomy(p.after)
		all := []memory{listAt(before), listAt(after)}
		for _, f := range slices.Concat(before, after) {
			all = append(all, textAt(f.Path), textAt(f.Data))
		}
		first, second := deedsOf(t, before, after), deedsOf(t, before, after)
		all = slices.Concat(all, memoryOf(first), memoryOf(second))
		all = slices.DeleteFunc(all, func(m memory) bool { return m.from == m.to })
		slices.SortFunc(all, func(a, b memory) int { return int(int64(a.from) - int64(b.from)) })
		for i, m := range all {
			if i > 0 && m.from < all[i-1].to {
				t.Fatalf("%q and %q share memory", all[i-1].what, m.what)
			}
		}
	}
}

// R5: the same is told again, whatever was asked in between, and however much spare room there is.
func TestSameAgain(t *testing.T) {
	s := source(14)
	pairs := s.pairs(60)
	var told [][]api.Deed
	for _, p := range pairs {
		told = append(told, deedsOf(t, p.before, p.after))
	}
	for range 10 {
		for i, p := range pairs {
			if l := deedsOf(t, roomy(p.before), roomy(p.after)); !slices.Equal(l, told[i]) {
				t.Fatalf("%s, then %s", flat(told[i]), flat(l))
			}
			delta.Deeds(p.after, files("/journal"))
		}
	}
}

// The numbers of the errors and limits that this layer tells.
func TestNumbers(t *testing.T) {
	if api.OK != 0 || api.ErrArg != 1 || api.MaxDiskPath != 4096 {
		t.Error(api.OK, api.ErrArg, api.MaxDiskPath)
	}
}
