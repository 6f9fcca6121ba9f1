package disk_test

import (
	"slices"
	"strings"
	"testing"

	"halyard/api"
	"halyard/disk"
)

func dir(path string) api.File { return api.File{Path: path, Dir: true} }

func file(path, data string) api.File { return api.File{Path: path, Data: data} }

// load is a disk with these files and directories, which must be such that a disk may have them.
func load(t *testing.T, l ...api.File) *disk.Disk {
	t.Helper()
	d, e := disk.Load(l)
	if e != api.OK || d == nil {
		t.Fatalf("Load(%v): %v, %v", l, d, e)
	}
	return d
}

// answers holds an answer's number against the one that the document asks for.
func answers(t *testing.T, what string, got, want api.Errno) {
	t.Helper()
	if got != want {
		t.Errorf("%q: %v, not %v", what, got, want)
	}
}

// holds tells a fault unless the disk has just these files and directories, in this order.
func holds(t *testing.T, d *disk.Disk, want ...api.File) {
	t.Helper()
	if got := d.All(); !slices.Equal(got, want) {
		t.Errorf("All: %v, not %v", got, want)
	}
}

// noted tells a fault unless the disk has noted just these raw writes.
func noted(t *testing.T, d *disk.Disk, want ...api.Raw) {
	t.Helper()
	if got := d.Raws(); !slices.Equal(got, want) {
		t.Errorf("Raws: %v, not %v", got, want)
	}
}

// listed tells a fault unless a directory has just these names.
func listed(t *testing.T, d *disk.Disk, path string, want ...string) {
	t.Helper()
	if got, e := d.List(path); e != api.OK || !slices.Equal(got, want) {
		t.Errorf("List(%q): %q, %v, not %q", path, got, e, want)
	}
}

// reads tells a fault unless a file has just these bytes.
func reads(t *testing.T, d *disk.Disk, path, want string) {
	t.Helper()
	if got, e := d.Read(path); e != api.OK || got != want {
		t.Errorf("Read(%q): %q, %v, not %q", path, got, e, want)
	}
}

// refuses asks for a raw write that must be refused, and that must leave the disk as it is, a Cut that is to come too.
func refuses(t *testing.T, what string, d *disk.Disk, want api.Errno, write func() api.Errno) {
	t.Helper()
	files, raws, down := d.All(), d.Raws(), d.Down()
	answers(t, what, write(), want)
	if !slices.Equal(d.All(), files) {
		t.Errorf("%q: refused, and All is %v, not %v", what, d.All(), files)
	}
	if !slices.Equal(d.Raws(), raws) {
		t.Errorf("%q: refused, and Raws is %v, not %v", what, d.Raws(), raws)
	}
	if d.Down() != down {
		t.Errorf("%q: refused, and Down is %v", what, d.Down())
	}
}

// noPaths are texts that are no paths.
func noPaths() []string {
	l := []string{
		"", "a", "a/b", "./a", "//", "//a", "/a/", "/a//b", "/a/b/", "///",
		"/.", "/..", "/./a", "/../a", "/a/.", "/a/..", "/a/./b", "/a/../b",
		" /a", "/a ", "/a b", "/A", "/a/B", "/aZ", "/a_b", "/a\\b", "/a:b", "/a\x00", "/a\n", "/\xff", "/é", "/a/ö",
		"/" + strings.Repeat("x", 25), "/a/" + strings.Repeat("x", 25), "/" + strings.Repeat("x", 25) + "/a",
		"/" + strings.Repeat(".", 25), longPath(api.MaxDiskPath + 1), strings.Repeat("/a", 2049), strings.Repeat("/", 5000), strings.Repeat("/a", 1<<19),
	}
	for b := range 256 {
		if !strings.Contains("abcdefghijklmnopqrstuvwxyz0123456789.-/", string(rune(b))) || b > 127 {
			l = append(l, "/x"+string([]byte{byte(b)})+"y", "/"+string([]byte{byte(b)}), "/x/y"+string([]byte{byte(b)}))
		}
	}
	return l
}

// onePartPaths are paths of one part.
func onePartPaths() []string {
	l := []string{
		"/...", "/....", "/.a", "/a.", "/..a", "/a..", "/.-", "/-.", "/a.b", "/a-b", "/-a", "/9z", "/--",
		"/" + strings.Repeat("x", 23), "/" + strings.Repeat("x", 24), "/" + strings.Repeat(".", 24),
	}
	for _, b := range "abcdefghijklmnopqrstuvwxyz0123456789-" {
		l = append(l, "/"+string(b))
	}
	return l
}

// longPath is a text of so many bytes, made as a path is, of parts of at most 24 bytes.
func longPath(n int) string {
	var b strings.Builder
	for b.Len() < n {
		part := min(24, n-b.Len()-1)
		if n-b.Len()-1-part == 1 { // a part must be left behind the slash
			part--
		}
		b.WriteString("/" + strings.Repeat("p", part))
	}
	return b.String()
}

// above is all directories above a path, the highest first.
func above(path string) []api.File {
	var l []api.File
	for i := 1; i < len(path); i++ {
		if path[i] == '/' {
			l = append(l, dir(path[:i]))
		}
	}
	return l
}

// paths is the paths of files, in their order.
func paths(l []api.File) []string {
	var all []string
	for _, f := range l {
		all = append(all, f.Path)
	}
	return all
}
