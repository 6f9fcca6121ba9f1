package manifest_test

import (
	"testing"

	"halyard/api"
	"halyard/manifest"
)

// manifests is manifests that may be: the edges, and such as look like chance.
func manifests() []api.Manifest {
	l := []api.Manifest{{}, base(), full()}
	for list := range 4 {
		l = append(l, with(list, deps("b 1.2.3")), with(list, []api.Dep{{Name: "b", Range: every(64)}}), with(list, deps("a", "a-", "a0", "aa")), with(list, deps(names("n", 16)...)), ofLength(list, 4095), ofLength(list, 4096))
	}
	l = append(l, api.Manifest{Deps: deps("a"), Dev: deps("b"), Optional: deps("c"), Overrides: deps("a", "b", "c", "d")})
	s := source(2)
	for range 2000 {
		l = append(l, s.someManifest())
	}
	return l
}

// Parse of Print is the manifest.
func TestParseOfPrint(t *testing.T) {
	for _, m := range manifests() {
		s, e := manifest.Print(m)
		if e != api.OK {
			t.Errorf("Print(%s): error %d", short(flat(m)), e)
		}
		reads(t, s, m)
		if got, _ := manifest.Parse(s); !manifest.Same(got, m) {
			t.Errorf("Parse(%s) is another manifest, Same says", short(s))
		}
	}
}

// What Parse takes may be, and is taken again as Print writes it, though it may be written otherwise.
func TestPrintOfParse(t *testing.T) {
	s := source(3)
	taken, otherwise := 0, 0
	for range 10000 {
		whole := s.someText()
		m, e := manifest.Parse(whole)
		if e != api.OK {
			continue
		}
		taken++
		mayBe(t, short(whole), m)
		again, e := manifest.Print(m)
		if e != api.OK {
			t.Errorf("Print of what is read of %s: error %d", short(whole), e)
		}
		if again != whole {
			otherwise++
		}
		reads(t, again, m)
	}
	if taken < 1000 || otherwise < 100 {
		t.Errorf("%d texts were taken, %d of them written otherwise", taken, otherwise)
	}
}

// Ranges that are written in any of their ways are printed in one.
func TestPrintOfOtherWays(t *testing.T) {
	for text, want := range map[string]string{
		"needs b 1.0.0||2.0.0": "needs b 1.0.0 || 2.0.0", "needs b =1.0.0": "needs b 1.0.0", "dev b 2.0.0 || 1.0.0": "dev b 1.0.0 || 2.0.0", "likes b ^0.0.1": "likes b 0.0.1", "pins b * * *": "pins b *",
		"needs b >=0.0.0": "needs b *", "pins b 1.0.0 || 1.0.1": "pins b >=1.0.0 <=1.0.1", "dev b <1.0.0 || >=1.0.0": "dev b *", "pins b >=999.999.999": "pins b 999.999.999", "likes b <2.0.0": "likes b <=1.999.999",
	} {
		m, e := manifest.Parse(head + text + "\n")
		got, e2 := manifest.Print(m)
		if e != api.OK || e2 != api.OK || got != head+want+"\n" {
			t.Errorf("Print of Parse of %q: %q, errors %d, %d", text, got, e, e2)
		}
		reads(t, got, m)
	}
}
