package plain

import (
	"slices"

	"halyard/api"
)

// dir is a package directory that was placed.
type dir struct {
	path    []string
	node    int
	up      *dir            // the one in whose modules it stands; the root has none
	modules map[string]*dir // by names, what stands in its own
	settled map[string]*dir // by labels, what its edges were settled with
}

func newDir(up *dir, path []string, node int) *dir {
	return &dir{path: path, node: node, up: up, modules: map[string]*dir{}, settled: map[string]*dir{}}
}

// inside is the path of a name in its modules.
func (d *dir) inside(name string) []string { return append(slices.Clone(d.path), name) }

// look is what a lookup finds from a directory; nil: nothing.
func look(d *dir, label string) *dir {
	if d == nil {
		return nil
	}
	if found := d.modules[label]; found != nil {
		return found
	}
	return look(d.up, label)
}

// find is what the lookup of an edge finds from a directory, if it is one of the node to which the edge leads; else nil.
func find(d *dir, e api.Edge) *dir {
	if found := look(d, e.Label); found != nil && found.node == e.To {
		return found
	}
	return nil
}

// free is a directory and those in which it stands, the nearest to the root first, but only from the last one on in whose modules there is such a name.
func free(d *dir, name string) []*dir {
	if d == nil || d.modules[name] != nil {
		return nil
	}
	return append(free(d.up, name), d)
}

// seesPast tells whether a directory, or one that stands in it, has settled a label with what stands in the modules of one above s. What is placed in those of s it would find instead.
func seesPast(d, s *dir, label string) bool {
	if with := d.settled[label]; with != nil && isAbove(with.up, s) {
		return true
	}
	for _, inner := range d.modules {
		if seesPast(inner, s, label) {
			return true
		}
	}
	return false
}

// isAbove tells whether a directory stands in another one, at any depth.
func isAbove(outer, d *dir) bool { return d.up != nil && (d.up == outer || isAbove(outer, d.up)) }
