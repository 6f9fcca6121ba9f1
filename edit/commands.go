package edit

import (
	"slices"
	"strings"

	"halyard/api"
	"halyard/copies"
	"halyard/graph"
	"halyard/manifest"
	"halyard/scan"
	"halyard/span"
)

// devKind is StepAdd's Kind of what is only for developing.
const devKind = 1

// task is what a command comes to by its arguments: what is to be resolved, and to be placed.
type task struct {
	manifest api.Manifest
	pins     []api.Pin
	old      *api.Tree
	pruned   bool
}

// command makes a task of a state that may be, and of a step; or it refuses it.
type command func(s api.State, x api.Step) (task, api.Errno)

// commands is the commands, by the steps' Ops.
func commands() map[int]command {
	return map[int]command{
		api.StepInstall:  install,
		api.StepAdd:      add,
		api.StepRemove:   remove,
		api.StepUpdate:   update,
		api.StepDedupe:   dedupe,
		api.StepPrune:    prune,
		api.StepOverride: override,
	}
}

// kept is the task by which all stays as it is, as far as it may.
func kept(s api.State) task {
	return task{manifest: copies.Manifest(s.Manifest), pins: graph.Pins(s.Graph), old: &s.Tree, pruned: s.Pruned}
}

// install asks for all from the beginning: nothing but the manifest is kept.
func install(s api.State, _ api.Step) (task, api.Errno) {
	return task{manifest: copies.Manifest(s.Manifest)}, api.OK
}

func add(s api.State, x api.Step) (task, api.Errno) {
	if !scan.Name(x.Name) {
		return task{}, api.ErrName
	}
	r, ok := readRange(x.Range)
	if !ok {
		return task{}, api.ErrRange
	}
	t := kept(s)
	lists := wanted(&t.manifest)
	if x.Kind < 0 || x.Kind >= len(lists) {
		return task{}, api.ErrArg
	}
	drop(x.Name, lists...)
	put(x.Name, r, lists[x.Kind])
	// What is pruned has nothing that is only for developing.
	t.pruned = t.pruned && x.Kind != devKind
	return notFull(t)
}

func remove(s api.State, x api.Step) (task, api.Errno) {
	if !scan.Name(x.Name) {
		return task{}, api.ErrName
	}
	t := kept(s)
	if !drop(x.Name, wanted(&t.manifest)...) {
		return task{}, api.ErrWant
	}
	return t, api.OK
}

func update(s api.State, x api.Step) (task, api.Errno) {
	t := kept(s)
	if x.Name == "" {
		t.pins = nil
		return t, api.OK
	}
	if !scan.Name(x.Name) {
		return task{}, api.ErrName
	}
	if !slices.ContainsFunc(s.Graph.Nodes, func(n api.Node) bool { return n.Name == x.Name }) {
		return task{}, api.ErrWant
	}
	t.pins = slices.DeleteFunc(t.pins, func(p api.Pin) bool { return p.Name == x.Name })
	return t, api.OK
}

// dedupe keeps what was chosen, not where it stands.
func dedupe(s api.State, _ api.Step) (task, api.Errno) {
	t := kept(s)
	t.old = nil
	return t, api.OK
}

func prune(s api.State, _ api.Step) (task, api.Errno) {
	t := kept(s)
	t.pruned = true
	return t, api.OK
}

func override(s api.State, x api.Step) (task, api.Errno) {
	if !scan.Name(x.Name) {
		return task{}, api.ErrName
	}
	t := kept(s)
	there := drop(x.Name, &t.manifest.Overrides)
	if x.Range == "" {
		if !there {
			return task{}, api.ErrWant
		}
		return t, api.OK
	}
	r, ok := readRange(x.Range)
	if !ok {
		return task{}, api.ErrRange
	}
	put(x.Name, r, &t.manifest.Overrides)
	return notFull(t)
}

// readRange reads a range that a manifest may have. One of too many spans is none here either, though span has another number for it.
func readRange(text string) ([]api.Span, bool) {
	r, e := span.Parse(text)
	return r, e == api.OK && len(r) > 0
}

// notFull is a task, unless its manifest has too much now: what was put into it is right by itself.
func notFull(t task) (task, api.Errno) {
	if !manifest.May(t.manifest) {
		return task{}, api.ErrFull
	}
	return t, api.OK
}

// wanted is the lists of what a project wants, in the order of StepAdd's Kinds.
func wanted(m *api.Manifest) []*[]api.Dep { return []*[]api.Dep{&m.Deps, &m.Dev, &m.Optional} }

// drop takes a name out of lists, and tells whether it was there.
func drop(name string, lists ...*[]api.Dep) bool {
	there := false
	for _, l := range lists {
		before := len(*l)
		*l = slices.DeleteFunc(*l, func(d api.Dep) bool { return d.Name == name })
		there = there || len(*l) < before
	}
	return there
}

// put puts a name with a range into a list that has it not, where it belongs.
func put(name string, r []api.Span, l *[]api.Dep) {
	*l = append(*l, api.Dep{Name: strings.Clone(name), Range: r})
	slices.SortFunc(*l, func(a, b api.Dep) int { return strings.Compare(a.Name, b.Name) })
}
