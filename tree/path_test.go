package tree_test

import (
	"slices"
	"strings"
	"testing"

	"halyard/tree"
)

// P12.2: paths with their texts, there and back.
func TestTexts(t *testing.T) {
	for text, path := range map[string][]string{
		"/":                          nil,
		"/modules/a":                 {"a"},
		"/modules/a/modules/b":       {"a", "b"},
		"/modules/a/modules/a":       {"a", "a"},
		"/modules/modules":           {"modules"},
		"/modules/a/modules/modules": {"a", "modules"},
		"/modules/modules/modules/modules/modules/modules": {"modules", "modules", "modules"},
		"/modules/left-pad/modules/z-0-9-":                 {"left-pad", "z-0-9-"},
		"/modules/abcdefghijklmnop/modules/b":              {"abcdefghijklmnop", "b"},
		"/modules/package/modules/manifest":                {"package", "manifest"},
	} {
		written(t, path, text)
		reads(t, text, path...)
	}
	for _, path := range [][]string{nil, {}, make([]string, 0, 4)} {
		written(t, path, "/")
	}
}

// P12.2: a path with a name that may not be, wherever it stands, has the empty text, and what would be its text is none.
func TestNamesOfTexts(t *testing.T) {
	for _, bad := range noNames() {
		for count := 1; count < 5; count++ {
			for at := range count {
				path := numbered(count)
				path[at] = bad
				written(t, path, "")
				refuses(t, "/modules/"+strings.Join(path, "/modules/"))
			}
		}
	}
	for length := range 40 {
		path := []string{"a", strings.Repeat("b", length)}
		if length >= 1 && length <= 16 {
			written(t, path, "/modules/a/modules/"+path[1])
			reads(t, "/modules/a/modules/"+path[1], path...)
		} else {
			written(t, path, "")
			refuses(t, "/modules/a/modules/"+path[1])
		}
	}
}

// P12.2: which bytes a name has, at its begin and behind it.
func TestBytesOfNames(t *testing.T) {
	for b := range 256 {
		for _, name := range []string{string([]byte{byte(b)}), "a" + string([]byte{byte(b)}), "a" + string([]byte{byte(b)}) + "0"} {
			path := []string{"x", name, "y"}
			written(t, path, modelText(path))
			parsedAsModel(t, "/modules/x/modules/"+name)
			parsedAsModel(t, "/modules/x/modules/"+name+"/modules/y")
		}
	}
}

// parsedAsModel tells a fault unless Parse answers as the model.
func parsedAsModel(t *testing.T, text string) bool {
	t.Helper()
	path, ok := modelParse(text)
	if ok {
		reads(t, text, path...)
	} else {
		refuses(t, text)
	}
	return ok
}

// P12.2: texts that are nearly one.
func TestNearlyTexts(t *testing.T) {
	for _, s := range []string{
		"", " ", "//", "/ ", " /", "/\n", "a", "/a", "modules", "modules/", "modules/a", "/modules", "/modules/", "/modules//", "//modules/a", "/modules//a", "/modules/a/", "/modules/a//",
		"/modules/a/b", "/modules/a/modules", "/modules/a/modules/", "/modules/a/modules//", "/modules/a//modules/b", "/modules/a/modules/b/", "/modules/a/modules/b/modules", "/modules//modules/b", "/modules/a/modules//modules/c",
		"/module/a", "/moduless/a", "/Modules/a", "/MODULES/a", "/modul3s/a", "/modules /a", "/ modules/a", "/modules/ a", "/modules/a ", "/modules/a\n", "\n/modules/a", "/modules/a\x00", "\x00", "\\modules\\a",
		"/a/modules/b", "/modules/a/module/b", "/modules/a/moduless/b", "/modules/a/Modules/b", "/modules/a/b/modules", "/modules/modules/a", "/modules/modules/modules", "/modules/a/package", "/modules/../modules/a", "/modules/./a", "/./modules/a", "/modules/a/..", "./modules/a",
	} {
		refuses(t, s)
	}
}

// P12.2: texts that differ from one in one byte: each is taken just if it has the form of one.
func TestBytesOfTexts(t *testing.T) {
	taken := 0
	for _, text := range []string{"/", "/modules/a", "/modules/ab/modules/c-9", "/modules/modules/modules/b"} {
		for at := range len(text) + 1 {
			refuses(t, "x"+text[:at])
			parsedAsModel(t, text[:at])
			parsedAsModel(t, text[at:])
			for b := range 256 {
				for behind := at; behind <= min(at+1, len(text)); behind++ {
					if parsedAsModel(t, text[:at]+string([]byte{byte(b)})+text[behind:]) {
						taken++
					}
				}
			}
		}
		for at := range len(text) {
			parsedAsModel(t, text[:at]+text[at+1:])
			parsedAsModel(t, text[:at]+text[at:at+1]+text[at:])
		}
	}
	if taken < 100 {
		t.Errorf("%d were taken", taken)
	}
}

// P12.2: pieces of texts, one behind the other by chance.
func TestPieces(t *testing.T) {
	s := source(2)
	taken := 0
	for range 100000 {
		text := ""
		for range s.below(6) {
			text += s.pick("/", "/modules/", "/modules", "modules/", "a", "b", "/modules/a", "/modules/b-0", "modules", "A", "", "")
		}
		if parsedAsModel(t, text) {
			taken++
		}
	}
	if taken < 1000 {
		t.Errorf("%d were taken", taken)
	}
}

// P12.2, P12.4: there and back, whatever the length: MaxPath bounds trees, no texts.
func TestAnyLength(t *testing.T) {
	for _, count := range []int{1, 2, 40, 41, 102, 103, 104, 256, 257, 1000, 1 << 16, 1 << 20} {
		path := make([]string, count)
		var want strings.Builder
		for i := range count {
			path[i] = []string{"a", "modules", "abcdefghijklmnop", "b-9"}[i%4]
			want.WriteString("/modules/" + path[i])
		}
		text := want.String()
		if tree.Text(path) != text {
			t.Errorf("Text of %d names", count)
		}
		if got, ok := tree.Parse(text); !ok || !slices.Equal(got, path) {
			t.Errorf("Parse of %d names: %d, %v", count, len(got), ok)
		}
		for _, tail := range []string{"/", "/modules", "/modules/", "/modules/A", "/b", "\n"} {
			if got, ok := tree.Parse(text + tail); ok || len(got) != 0 {
				t.Errorf("Parse of %d names and %q: %d, %v", count, tail, len(got), ok)
			}
		}
		path[count-1] = "A"
		if got := tree.Text(path); got != "" {
			t.Errorf("Text of %d names, the last one of which may not be: %s", count, short(got))
		}
	}
	for _, s := range []string{strings.Repeat("a", 1<<24), strings.Repeat("/", 1<<24), "/modules/" + strings.Repeat("a", 1<<24), strings.Repeat("/modules", 1<<20+1)} {
		refuses(t, s)
	}
}
