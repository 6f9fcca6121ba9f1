package tree_test

import (
	"slices"
	"testing"

	"halyard/api"
	"halyard/tree"
)

// P12.4: Parse of Text is the path.
func TestThereAndBack(t *testing.T) {
	s := source(5)
	taken := 0
	for range 20000 {
		var path []string
		for range s.below(7) {
			path = append(path, s.pick(append(noNames()[:s.below(3)], "a", "b-", "modules", "abcdefghijklmnop", "z9", "x-0", "package", "m")...))
		}
		text := tree.Text(path)
		if text != modelText(path) {
			t.Fatalf("Text(%q): %q", path, text)
		}
		if text == "" {
			continue
		}
		taken++
		if back, ok := tree.Parse(text); !ok || !slices.Equal(back, path) {
			t.Fatalf("%q comes back as %q, %v", path, back, ok)
		}
	}
	if taken < 5000 {
		t.Errorf("%d had texts", taken)
	}
}

// P12.4: Text of what Parse takes is the text.
func TestBackAndThere(t *testing.T) {
	s := source(6)
	taken := 0
	for range 100000 {
		text := ""
		for range 1 + s.below(4) {
			text += s.pick("/", "/modules/", "/modules", "a", "b", "/modules/a", "/modules/b-0", "modules", "-", "7", "\x00")
		}
		path, ok := tree.Parse(text)
		if !ok {
			continue
		}
		taken++
		if got := tree.Text(path); got != text {
			t.Fatalf("Parse takes %q as %q, of which the text is %q", text, path, got)
		}
	}
	if taken < 1000 {
		t.Errorf("%d were taken", taken)
	}
}

// P12.4: no two paths have one text.
func TestOneTextEach(t *testing.T) {
	of := map[string]string{}
	var paths [][]string
	for _, n := range few {
		paths = append(paths, []string{n})
		for _, m := range few {
			paths = append(paths, []string{n, m})
			for _, o := range few {
				paths = append(paths, []string{n, m, o})
			}
		}
	}
	for _, path := range append(paths, nil) {
		text := tree.Text(path)
		if met, some := of[text]; some || text == "" {
			t.Errorf("%q has the text %q of %s", path, text, met)
		}
		of[text] = flatPath(path)
	}
}

// P12.5: in a tree that may be, each directory but the root is Inside its Parent, just once, and Inside no other one.
func TestAbove(t *testing.T) {
	s := source(7)
	looked := 0
	for range 2000 {
		x := s.someTree()
		mayBe(t, "a tree by chance", x)
		isAbove(t, x)
		looked += len(x.Dirs)
	}
	if looked < 10000 {
		t.Errorf("%d looked at", looked)
	}
	wide := grown()
	for i := range 16 {
		wide.Dirs = append(wide.Dirs, dir(1, numbered(16)[i]))
		for j := range 15 {
			wide.Dirs = append(wide.Dirs, dir(1, numbered(16)[i], numbered(16)[15-j]))
		}
	}
	for _, x := range []api.Tree{grown(), base(), chain(lengths(1024, 5)...), wide} {
		mayBe(t, "a tree", x)
		isAbove(t, x)
	}
}

func isAbove(t *testing.T, x api.Tree) {
	t.Helper()
	times := make([]int, len(x.Dirs))
	for at := range x.Dirs {
		for _, i := range tree.Inside(x, at) {
			times[i]++
			if tree.Parent(x, i) != at {
				t.Fatalf("%d is inside %d, not its parent, in %s", i, at, flat(x))
			}
		}
	}
	if times[0] != 0 || tree.Parent(x, 0) != -1 {
		t.Fatalf("the root is inside another one in %s", flat(x))
	}
	for i, n := range times[1:] {
		if n != 1 {
			t.Fatalf("%d is inside others %d times in %s", i+1, n, flat(x))
		}
	}
}
