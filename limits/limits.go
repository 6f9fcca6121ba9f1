// Package limits tells which limits may be: see shared/doc/19-edit.md.
package limits

import "halyard/api"

// May tells whether limits may be.
func May(l api.Limits) bool { return MaySearch(l) && MayPlace(l) }

// MaySearch tells it of those alone that a search has.
func MaySearch(l api.Limits) bool {
	return isIn(l.Decisions, api.MaxDecisions) && isIn(l.Nodes, api.MaxNodes)
}

// MayPlace tells it of those alone that a tree has.
func MayPlace(l api.Limits) bool { return isIn(l.Dirs, api.MaxDirs) && isIn(l.Path, api.MaxPath) }

// isIn tells whether a limit is one.
func isIn(limit, most int) bool { return limit >= 1 && limit <= most }
