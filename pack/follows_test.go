package pack_test

import (
	"testing"

	"halyard/api"
	"halyard/pack"
)

// packages is packages that may be: such as look like chance, and the edges.
func packages() []api.Package {
	l := []api.Package{{Name: "a"}, {Name: "abcdefghijklmnop", Version: version(999, 999, 999)}, base(), ofLength(4095), ofLength(4096),
		{Name: "a", Deps: deps(names("x", 16)...), Peers: deps(names("y", 16)...), Optional: deps(names("z", 16)...)}}
	for list := range 3 {
		l = append(l, with(list, deps("own 1.2.3")), with(list, []api.Dep{{Name: "b", Range: every(64)}}), with(list, deps("a", "a-", "a0", "aa")))
	}
	s := source(2)
	for range 2000 {
		l = append(l, s.somePackage())
	}
	return l
}

// Parse of Print is the package.
func TestParseOfPrint(t *testing.T) {
	for _, p := range packages() {
		s, e := pack.Print(p)
		if e != api.OK {
			t.Errorf("Print(%s): error %d", short(flat(p)), e)
		}
		reads(t, s, p)
		if got, _ := pack.Parse(s); !pack.Same(got, p) {
			t.Errorf("Parse(%s) is another package, Same says", short(s))
		}
	}
}

// Print of what Parse takes is taken again, as the same package; Print writes it as before.
func TestPrintOfParse(t *testing.T) {
	s := source(3)
	taken, otherwise := 0, 0
	for range 10000 {
		whole := s.someText()
		p, e := pack.Parse(whole)
		if e != api.OK {
			continue
		}
		taken++
		mayBe(t, short(whole), p)
		again, e := pack.Print(p)
		if e != api.OK {
			t.Errorf("Print of what is read of %s: error %d", short(whole), e)
		}
		if again != whole {
			otherwise++
		}
		reads(t, again, p)
	}
	if taken < 1000 || otherwise < 100 {
		t.Errorf("%d texts were taken, %d of them written otherwise", taken, otherwise)
	}
}

// The same where ranges are written in any of their ways, at the edge of what a text may have, too.
func TestPrintOfOtherWays(t *testing.T) {
	for text, want := range map[string]string{
		"needs b 1.0.0||2.0.0": "needs b 1.0.0 || 2.0.0", "needs b =1.0.0": "needs b 1.0.0", "beside b 2.0.0 || 1.0.0": "beside b 1.0.0 || 2.0.0", "likes b ^0.0.1": "likes b 0.0.1", "likes b * * *": "likes b *",
		"needs b >=0.0.0": "needs b *", "needs b 1.0.0 || 1.0.1": "needs b >=1.0.0 <=1.0.1", "beside b <1.0.0 || >=1.0.0": "beside b *", "beside b >=999.999.999": "beside b 999.999.999", "needs b <2.0.0": "needs b <=1.999.999",
	} {
		p, e := pack.Parse(head + text + "\n")
		got, e2 := pack.Print(p)
		if e != api.OK || e2 != api.OK || got != head+want+"\n" {
			t.Errorf("Print of Parse of %q: %q, errors %d, %d", text, got, e, e2)
		}
		reads(t, got, p)
	}
}
