package chart

import (
	"halyard/api"
	"halyard/copies"
	"halyard/tree"
)

// Points are right to the last digit: the sum of two products of 2^40 and 1024, and that of 257 parts of 2^40, have fewer bits than the 53 that each part of a complex128 keeps.

// point is where a spot is on the plane.
func point(s Spot) complex128 { return complex(float64(s.X), float64(s.Y)) }

// spotAt is a spot with a path of its own.
func spotAt(path []string, p complex128) Spot {
	return Spot{Path: copies.Path(path), X: int(real(p)), Y: int(imag(p))}
}

// turned is what a point that is turned by some quarters is multiplied by.
func turned(quarters int) complex128 {
	by := complex(1, 0)
	// The last two bits tell how many are left of four each, also of those that go the other way round.
	for range quarters & 3 {
		by *= 1i
	}
	return by
}

// moved is a drawing's spots, each at the point to which it is moved.
func moved(l []Spot, move func(complex128) complex128) ([]Spot, api.Errno) {
	if !may(l) {
		return nil, api.ErrArg
	}
	var out []Spot
	for _, s := range l {
		out = append(out, spotAt(s.Path, move(point(s))))
	}
	return out, api.OK
}

// drawing is what is drawn of a tree so far.
type drawing struct {
	tree  api.Tree
	turn  complex128
	spots []Spot
	rows  int
}

// lay draws a directory and all below it. It stands at the first row that is free: all that stands ahead of it and not above it is drawn wholly, with each row that it has.
func (d *drawing) lay(at int) {
	path := d.tree.Dirs[at].Path
	d.spots = append(d.spots, spotAt(path, complex(float64(len(path)), float64(d.rows))*d.turn))
	inside := tree.Inside(d.tree, at)
	for _, i := range inside {
		d.lay(i)
	}
	if len(inside) == 0 {
		d.rows++
	}
}
