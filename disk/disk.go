// Package disk is layer 1: see shared/doc/01-disk.md.
package disk

import (
	"slices"
	"strings"

	"halyard/api"
)

const (
	root    = "/"
	maxPart = 24 // bytes of one part of a path
	noCut   = -1 // raw writes that are left when no Cut is to come
)

// What Kind tells.
const (
	kindNone = iota
	kindFile
	kindDir
)

// item is what stands at a path.
type item struct {
	dir  bool
	data string
}

// Disk is directories and files. The root is not among the items, as it can neither come nor go.
type Disk struct {
	items map[string]item
	raws  []api.Raw
	left  int // raw writes till the power goes: 0 when it is off, noCut when it stays on
}

// New is a disk with the root alone.
func New() *Disk {
	return &Disk{items: map[string]item{}, left: noCut}
}

// Load is a disk with just these files and directories.
func Load(l []api.File) (*Disk, api.Errno) {
	d := New()
	for _, f := range l {
		if !mayLoad(f) || d.Kind(f.Path) != kindNone {
			return nil, api.ErrArg
		}
		d.items[f.Path] = item{dir: f.Dir, data: f.Data}
	}
	// A parent may stand behind its child, so parents are looked for when all items are there.
	for _, f := range l {
		if d.parentFault(f.Path) != api.OK {
			return nil, api.ErrArg
		}
	}
	return d, api.OK
}

// Mkdir makes a directory.
func (d *Disk) Mkdir(path string) api.Errno {
	if e := d.writeFault(path); e != api.OK {
		return e
	}
	if e := d.parentFault(path); e != api.OK {
		return e
	}
	if d.Kind(path) != kindNone {
		return api.ErrThere
	}
	d.items[path] = item{dir: true}
	d.note(api.Raw{Kind: api.RawMkdir, Path: path})
	return api.OK
}

// Write makes a file, or gives it other bytes.
func (d *Disk) Write(path string, data string) api.Errno {
	if e := d.writeFault(path); e != api.OK {
		return e
	}
	if e := d.fileFault(path); e != api.OK {
		return e
	}
	d.items[path] = item{data: data}
	d.note(api.Raw{Kind: api.RawWrite, Path: path})
	return api.OK
}

// Rename gives a file another path.
func (d *Disk) Rename(from, to string) api.Errno {
	if e := d.writeFault(from, to); e != api.OK {
		return e
	}
	data, e := d.Read(from)
	if e != api.OK {
		return e
	}
	if e := d.fileFault(to); e != api.OK {
		return e
	}
	// Deleted ahead of being set, so that a file that is renamed to its own path stays.
	delete(d.items, from)
	d.items[to] = item{data: data}
	d.note(api.Raw{Kind: api.RawRename, Path: from, To: to})
	return api.OK
}

// Remove takes a file, or an empty directory, away.
func (d *Disk) Remove(path string) api.Errno {
	if e := d.writeFault(path); e != api.OK {
		return e
	}
	switch d.Kind(path) {
	case kindNone:
		return api.ErrAbsent
	case kindDir:
		if d.used(path) {
			return api.ErrUsed
		}
	}
	delete(d.items, path)
	d.note(api.Raw{Kind: api.RawRemove, Path: path})
	return api.OK
}

// Read is a file's bytes.
func (d *Disk) Read(path string) (string, api.Errno) {
	if !isPath(path) {
		return "", api.ErrPath
	}
	switch d.Kind(path) {
	case kindNone:
		return "", api.ErrAbsent
	case kindDir:
		return "", api.ErrKind
	}
	return d.items[path].data, api.OK
}

// Kind tells what is there: 0 nothing, 1 a file, 2 a directory.
func (d *Disk) Kind(path string) int {
	if path == root {
		return kindDir
	}
	it, ok := d.items[path]
	if !ok {
		return kindNone
	}
	if it.dir {
		return kindDir
	}
	return kindFile
}

// List tells the names in a directory.
func (d *Disk) List(path string) ([]string, api.Errno) {
	if !isPath(path) {
		return nil, api.ErrPath
	}
	switch d.Kind(path) {
	case kindNone:
		return nil, api.ErrAbsent
	case kindFile:
		return nil, api.ErrKind
	}
	var names []string
	for at := range d.items {
		parent, name := split(at)
		if parent == path {
			names = append(names, name)
		}
	}
	slices.Sort(names)
	return names, api.OK
}

// All tells all files and directories but the root.
func (d *Disk) All() []api.File {
	var l []api.File
	for path, it := range d.items {
		l = append(l, api.File{Path: path, Dir: it.dir, Data: it.data})
	}
	slices.SortFunc(l, func(a, b api.File) int { return strings.Compare(a.Path, b.Path) })
	return l
}

// Cut lets the power go when so many raw writes more are done.
func (d *Disk) Cut(n int) api.Errno {
	if d.Down() {
		return api.ErrDown
	}
	if n < 0 {
		return api.ErrArg
	}
	d.left = n
	return api.OK
}

// Up brings the power back.
func (d *Disk) Up() { d.left = noCut }

// Down tells whether the power is off.
func (d *Disk) Down() bool { return d.left == 0 }

// Raws tells the raw writes that were done since New, Load or Clear.
func (d *Disk) Raws() []api.Raw { return slices.Clone(d.raws) }

// Clear forgets them.
func (d *Disk) Clear() { d.raws = nil }

// writeFault is what is wrong with a raw write, whatever its kind.
func (d *Disk) writeFault(paths ...string) api.Errno {
	if d.Down() {
		return api.ErrDown
	}
	for _, path := range paths {
		if path == root || !isPath(path) {
			return api.ErrPath
		}
	}
	return api.OK
}

// parentFault is why nothing can stand at a path: its parent is no directory.
func (d *Disk) parentFault(path string) api.Errno {
	parent, _ := split(path)
	switch d.Kind(parent) {
	case kindNone:
		return api.ErrAbsent
	case kindFile:
		return api.ErrKind
	}
	return api.OK
}

// fileFault is why no file can come to stand at a path.
func (d *Disk) fileFault(path string) api.Errno {
	if e := d.parentFault(path); e != api.OK {
		return e
	}
	if d.Kind(path) == kindDir {
		return api.ErrKind
	}
	return api.OK
}

// used tells whether something is in a directory.
func (d *Disk) used(path string) bool {
	for at := range d.items {
		if parent, _ := split(at); parent == path {
			return true
		}
	}
	return false
}

// note keeps a raw write that was done, and brings the power nearer to its end, if a Cut is to come.
func (d *Disk) note(r api.Raw) {
	d.raws = append(d.raws, r)
	if d.left > 0 {
		d.left--
	}
}
