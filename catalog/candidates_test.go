package catalog_test

import (
	"slices"
	"strings"
	"testing"

	"halyard/api"
	"halyard/catalog"
	"halyard/span"
)

// tried is a catalog with some versions of a, and others of b.
func tried() *catalog.Catalog {
	return filled(plain("a 1.0.0", "b 1.0.0", "a 2.0.0", "a 0.5.0", "b 4.0.0", "a 3.1.0", "a 1.5.0", "aa 1.0.0", "aa 9.0.0", "a- 1.0.0")...)
}

const triedAll = "3.1.0 2.0.0 1.5.0 1.0.0 0.5.0"

// P8.3: of the versions of this name those in the range, the greatest first.
func TestCandidatesInRange(t *testing.T) {
	c := tried()
	for r, want := range map[string]string{
		"*": triedAll, "<999.999.999": triedAll, "1.0.0": "1.0.0", "<2.0.0": "1.5.0 1.0.0 0.5.0", "<=2.0.0": "2.0.0 1.5.0 1.0.0 0.5.0", ">2.0.0": "3.1.0", ">=2.0.0": "3.1.0 2.0.0",
		"^1.0.0": "1.5.0 1.0.0", "~1.0.0": "1.0.0", "1.0.0 || 3.1.0": "3.1.0 1.0.0", "<1.0.0 || >=3.0.0": "3.1.0 0.5.0", "9.0.0": "", "4.0.0": "", "<0.5.0 || >3.1.0": "",
	} {
		tries(t, c, "a", ranged(r), nil, want)
	}
	tries(t, c, "b", ranged("*"), nil, "4.0.0 1.0.0")
	tries(t, c, "aa", ranged("<9.0.0"), nil, "1.0.0")
	for _, name := range append(noNames(), "c", "a0", "zz") {
		tries(t, c, name, span.All(), nil, "")
		tries(t, c, name, span.All(), append(pins("a 1.0.0"), api.Pin{Name: name, Version: version(1, 0, 0)}), "")
	}
	tries(t, catalog.New(), "a", span.All(), pins("a 1.0.0"), "")
}

// P8.3: of the range of none, and of one that may not be, none; whatever is pinned.
func TestCandidatesOfNoRange(t *testing.T) {
	c := tried()
	for _, r := range append(noRanges(), nil, []api.Span{}, ranged("<0.0.0"), make([]api.Span, 1<<20)) {
		tries(t, c, "a", r, nil, "")
		tries(t, c, "a", r, pins("a 1.0.0", "a 2.0.0", "a 0.5.0"), "")
	}
}

// P8.3: pinned versions go first, the greatest of them first, whatever the pins' order; then the others.
func TestCandidatesPinned(t *testing.T) {
	c := tried()
	for _, x := range []struct{ pins, want string }{
		{"", triedAll},
		{"a 3.1.0", triedAll},
		{"a 0.5.0", "0.5.0 3.1.0 2.0.0 1.5.0 1.0.0"},
		{"a 1.5.0", "1.5.0 3.1.0 2.0.0 1.0.0 0.5.0"},
		{"a 1.0.0,a 2.0.0", "2.0.0 1.0.0 3.1.0 1.5.0 0.5.0"},
		{"a 2.0.0,a 1.0.0", "2.0.0 1.0.0 3.1.0 1.5.0 0.5.0"},
		{"a 0.5.0,a 1.0.0,a 1.5.0,a 2.0.0,a 3.1.0", triedAll},
		{"a 1.0.0,a 1.0.0", "1.0.0 3.1.0 2.0.0 1.5.0 0.5.0"},
		{"a 1.0.0,a 0.5.0,a 1.0.0,a 0.5.0", "1.0.0 0.5.0 3.1.0 2.0.0 1.5.0"},
		{"b 1.0.0", triedAll},
		{"b 1.0.0,aa 1.0.0,a- 1.0.0,A 1.0.0,c 2.0.0", triedAll},
		{"b 4.0.0,a 9.0.0,a 4.0.0", triedAll},
		{"a 9.0.0,a 1.0.0,b 2.0.0", "1.0.0 3.1.0 2.0.0 1.5.0 0.5.0"},
		{"a 1000.0.0,a -1.0.0,a 0.0.1000", triedAll},
	} {
		var l []api.Pin
		if x.pins != "" {
			l = pins(strings.Split(x.pins, ",")...)
		}
		tries(t, c, "a", span.All(), l, x.want)
		slices.Reverse(l)
		tries(t, c, "a", span.All(), l, x.want)
	}
}

// P8.3: what is pinned and not in the range is not told.
func TestCandidatesPinnedOutside(t *testing.T) {
	c := tried()
	tries(t, c, "a", ranged("<2.0.0"), pins("a 3.1.0", "a 2.0.0"), "1.5.0 1.0.0 0.5.0")
	tries(t, c, "a", ranged("<2.0.0"), pins("a 3.1.0", "a 0.5.0", "a 2.0.0"), "0.5.0 1.5.0 1.0.0")
	tries(t, c, "a", ranged(">=2.0.0"), pins("a 2.0.0", "a 1.0.0"), "2.0.0 3.1.0")
	tries(t, c, "a", ranged("9.0.0"), pins("a 9.0.0", "a 1.0.0"), "")
	tries(t, c, "b", ranged("*"), pins("a 1.0.0", "b 1.0.0", "a 4.0.0"), "1.0.0 4.0.0")
}
