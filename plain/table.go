package plain

import (
	"slices"
	"strings"

	"halyard/api"
	"halyard/graph"
	"halyard/manifest"
	"halyard/scan"
	"halyard/span"
)

// asked is what a step asks for of a state that may be: its manifest, and whether it is pruned; or why it is refused.
func asked(s api.State, x api.Step) (api.State, api.Errno) {
	if x.Op < api.StepInstall || x.Op > api.StepOverride {
		return api.State{}, api.ErrOp
	}
	if e := refusal(s, x); e != api.OK {
		return api.State{}, e
	}
	next := api.State{Manifest: manifestBehind(s.Manifest, x), Pruned: prunedBehind(s.Pruned, x)}
	if !manifest.May(next.Manifest) {
		return api.State{}, api.ErrFull
	}
	return next, api.OK
}

// refusal is what a command says of its arguments, till it comes to the manifest.
func refusal(s api.State, x api.Step) api.Errno {
	hasRange := x.Op == api.StepAdd || x.Op == api.StepOverride && x.Range != ""
	hasName := hasRange || x.Op == api.StepRemove || x.Op == api.StepOverride || x.Op == api.StepUpdate && x.Name != ""
	switch {
	case hasName && !scan.Name(x.Name):
		return api.ErrName
	case hasRange && len(rangeOf(x)) == 0:
		return api.ErrRange
	case x.Op == api.StepAdd && (x.Kind < 0 || x.Kind > 2):
		return api.ErrArg
	case hasName && !hasRange && !isThere(s, x):
		return api.ErrWant
	}
	return api.OK
}

// rangeOf is a step's range; none, if its text is none.
func rangeOf(x api.Step) []api.Span {
	r, _ := span.Parse(x.Range)
	return r
}

// isThere tells whether the project has what a step is to remove, to update, or to override no more.
func isThere(s api.State, x api.Step) bool {
	switch x.Op {
	case api.StepRemove:
		return hasDep(s.Manifest.Deps, x.Name) || hasDep(s.Manifest.Dev, x.Name) || hasDep(s.Manifest.Optional, x.Name)
	case api.StepUpdate:
		return slices.ContainsFunc(s.Graph.Nodes, func(n api.Node) bool { return n.Name == x.Name })
	}
	return hasDep(s.Manifest.Overrides, x.Name)
}

func hasDep(l []api.Dep, name string) bool {
	return slices.ContainsFunc(l, func(d api.Dep) bool { return d.Name == name })
}

// manifestBehind is the manifest behind a step that is not refused.
func manifestBehind(m api.Manifest, x api.Step) api.Manifest {
	isAdd := x.Op == api.StepAdd
	switch x.Op {
	case api.StepAdd, api.StepRemove:
		m.Deps, m.Dev, m.Optional = listBehind(m.Deps, x, isAdd && x.Kind == 0), listBehind(m.Dev, x, isAdd && x.Kind == 1), listBehind(m.Optional, x, isAdd && x.Kind == 2)
	case api.StepOverride:
		m.Overrides = listBehind(m.Overrides, x, x.Range != "")
	}
	return m
}

// listBehind is a list without a step's name; or with it, and the step's range, where it belongs.
func listBehind(l []api.Dep, x api.Step, has bool) []api.Dep {
	l = slices.DeleteFunc(slices.Clone(l), func(d api.Dep) bool { return d.Name == x.Name })
	if has {
		l = append(l, api.Dep{Name: x.Name, Range: rangeOf(x)})
	}
	slices.SortFunc(l, func(a, b api.Dep) int { return strings.Compare(a.Name, b.Name) })
	return l
}

func prunedBehind(pruned bool, x api.Step) bool {
	switch {
	case x.Op == api.StepInstall, x.Op == api.StepAdd && x.Kind == 1:
		return false
	case x.Op == api.StepPrune:
		return true
	}
	return pruned
}

// pinsFor is the pins that a step keeps.
func pinsFor(s api.State, x api.Step) []api.Pin {
	switch {
	case x.Op == api.StepInstall, x.Op == api.StepUpdate && x.Name == "":
		return nil
	case x.Op == api.StepUpdate:
		return slices.DeleteFunc(graph.Pins(s.Graph), func(p api.Pin) bool { return p.Name == x.Name })
	}
	return graph.Pins(s.Graph)
}

// oldFor is the tree whose places a step likes.
func oldFor(s api.State, x api.Step) *api.Tree {
	if x.Op == api.StepInstall || x.Op == api.StepDedupe {
		return nil
	}
	return &s.Tree
}
