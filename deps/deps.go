// Package deps is lists of Deps, as packages and manifests have them: which may be, which are the same, an order of them, copies of them and of packages, and the lines of their texts; see shared/doc/05-pack.md.
package deps

import (
	"cmp"
	"slices"
	"strings"

	"halyard/api"
	"halyard/scan"
	"halyard/span"
	"halyard/vers"
)

// May tells whether a list may be.
func May(l []api.Dep) bool {
	if len(l) > api.MaxList {
		return false
	}
	for i, d := range l {
		if !mayFollow(l[:i], d.Name) || !mayRange(d.Range) {
			return false
		}
	}
	return true
}

// mayFollow tells whether a name may be, and rises above those ahead of it, which rise.
func mayFollow(ahead []api.Dep, name string) bool {
	return scan.Name(name) && (len(ahead) == 0 || ahead[len(ahead)-1].Name < name)
}

// mayRange: nothing could be chosen out of the range of none.
func mayRange(l []api.Span) bool { return len(l) > 0 && span.May(l) }

// Once tells whether no name stands twice, in whichever of the lists.
func Once(lists ...[]api.Dep) bool {
	times := map[string]int{}
	for _, l := range lists {
		for _, d := range l {
			times[d.Name]++
			if times[d.Name] > 1 {
				return false
			}
		}
	}
	return true
}

// Same tells whether two lists are the same, be they such as may be or not.
func Same(a, b []api.Dep) bool { return slices.EqualFunc(a, b, sameDep) }

func sameDep(a, b api.Dep) bool { return a.Name == b.Name && slices.Equal(a.Range, b.Range) }

// Compare is an order of all lists, be they such as may be or not, in which just those are level that are the same.
func Compare(a, b []api.Dep) int { return slices.CompareFunc(a, b, compareDeps) }

func compareDeps(a, b api.Dep) int {
	return cmp.Or(strings.Compare(a.Name, b.Name), slices.CompareFunc(a.Range, b.Range, compareSpans))
}

func compareSpans(a, b api.Span) int {
	return cmp.Or(vers.Compare(a.Lo, b.Lo), vers.Compare(a.Hi, b.Hi))
}

// Copy is a list in memory of its own, at every depth.
func Copy(l []api.Dep) []api.Dep {
	var out []api.Dep
	for _, d := range l {
		out = append(out, api.Dep{Name: strings.Clone(d.Name), Range: slices.Clone(d.Range)})
	}
	return out
}

// CopyPackage is a package in memory of its own, at every depth.
func CopyPackage(p api.Package) api.Package {
	return api.Package{Name: strings.Clone(p.Name), Version: p.Version, Deps: Copy(p.Deps), Peers: Copy(p.Peers), Optional: Copy(p.Optional)}
}
