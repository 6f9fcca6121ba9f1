package vers_test

import (
	"cmp"
	"testing"

	"halyard/api"
	"halyard/vers"
)

// At of Rank is the version.
func TestAtOfRank(t *testing.T) {
	for _, v := range someVersions() {
		n, ok := vers.Rank(v)
		if !ok {
			t.Errorf("Rank(%v): false", v)
		}
		got, ok := vers.At(n)
		gives(t, "At of the Rank of "+text(v), got, ok, v)
	}
}

// Rank of At is the number.
func TestRankOfAt(t *testing.T) {
	for _, n := range someRanks() {
		v, ok := vers.At(n)
		if !ok {
			t.Errorf("At(%d): false", n)
		}
		if got, ok := vers.Rank(v); got != n || !ok {
			t.Errorf("Rank of At(%d): %d, %v", n, got, ok)
		}
	}
}

// thereAndBack tells a fault unless every version but the end has one beside it, from which the way leads back to it.
func thereAndBack(t *testing.T, there, back func(api.Version) (api.Version, bool), end api.Version) {
	t.Helper()
	for _, v := range someVersions() {
		beside, ok := there(v)
		if ok != (v != end) {
			t.Errorf("beside %v: %v, %v", v, beside, ok)
		}
		if ok {
			got, ok := back(beside)
			gives(t, "there and back from "+text(v), got, ok, v)
		}
	}
}

// Next of Prev is the version, where there is a Prev; there is one but for the first version.
func TestNextOfPrev(t *testing.T) { thereAndBack(t, vers.Prev, vers.Next, first) }

// There is a Next but for the last version, and Prev of it is the version.
func TestPrevOfNext(t *testing.T) { thereAndBack(t, vers.Next, vers.Prev, last) }

// No version stands between one and its Next: their ranks are neighbours.
func TestNextHasTheNextRank(t *testing.T) {
	for _, n := range someRanks() {
		v, _ := vers.At(n)
		behind, ok := vers.Next(v)
		if ok != (n < 999999999) {
			t.Errorf("Next(%v): %v, %v", v, behind, ok)
		}
		if !ok {
			continue
		}
		if got, _ := vers.Rank(behind); got != n+1 {
			t.Errorf("Rank of the Next of At(%d): %d", n, got)
		}
		if vers.Compare(v, behind) != -1 || vers.Compare(behind, v) != 1 {
			t.Errorf("Next(%v): %v, which is not greater", v, behind)
		}
	}
}

// A walk by Next goes through all versions from one to another, one by one; a walk by Prev goes back.
func TestWalk(t *testing.T) {
	from := version(4, 998, 990)
	v := from
	for i := range 3000 {
		want := count(from) + i
		if n, ok := vers.Rank(v); n != want || !ok {
			t.Fatalf("%d steps on from %v: %v, of Rank %d", i, from, v, n)
		}
		v, _ = vers.Next(v)
	}
	for range 3000 {
		v, _ = vers.Prev(v)
	}
	if v != from {
		t.Errorf("on and back from %v: %v", from, v)
	}
}

// Compare keeps the order of Ranks.
func TestCompareKeepsRanks(t *testing.T) {
	var l []api.Version
	for i, v := range someVersions() {
		if i%7 == 0 {
			l = append(l, v)
		}
	}
	for _, a := range l {
		for _, b := range l {
			m, _ := vers.Rank(a)
			n, _ := vers.Rank(b)
			if got := vers.Compare(a, b); got != cmp.Compare(m, n) {
				t.Fatalf("Compare(%v, %v): %d, and their Ranks are %d, %d", a, b, got, m, n)
			}
		}
	}
}

// Parse of Print is the version, Print of Parse the text.
func TestParseOfPrint(t *testing.T) {
	for _, n := range someRanks() {
		v, _ := vers.At(n)
		s := vers.Print(v)
		got, ok := vers.Parse(s)
		gives(t, "Parse of the Print of "+text(v), got, ok, v)
		if vers.Print(got) != s {
			t.Errorf("Print of Parse(%q): %q", s, vers.Print(got))
		}
	}
}
