package edit_test

import (
	"slices"

	"halyard/api"
	"halyard/catalog"
	"halyard/graph"
	"halyard/image"
	"halyard/manifest"
	"halyard/place"
	"halyard/resolve"
	"halyard/scan"
	"halyard/span"
)

// The model: the chapter's table, column by column, by the tests' own means.

// model is what Do must answer.
func model(s api.State, c *catalog.Catalog, x api.Step, l api.Limits) (api.State, api.Answer) {
	next, a, code := modelNext(s, c, x, l)
	if code != api.OK {
		return s, api.Answer{Code: code}
	}
	return next, a
}

func modelNext(s api.State, c *catalog.Catalog, x api.Step, l api.Limits) (api.State, api.Answer, api.Errno) {
	if _, e := image.Files(s); c == nil || !modelLimits(l) || e != api.OK {
		return api.State{}, api.Answer{}, api.ErrArg
	}
	if !slices.Contains(ops, x.Op) {
		return api.State{}, api.Answer{}, api.ErrOp
	}
	m := modelManifest(s, x)
	for _, r := range modelRefusals(s, x, m) {
		if r.applies {
			return api.State{}, api.Answer{}, r.code
		}
	}
	next := api.State{Manifest: m, Pruned: modelPruned(s, x)}
	g, decisions, e := resolve.Run(c, m, !next.Pruned, modelPins(s, x), l)
	if e != api.OK {
		return api.State{}, api.Answer{}, e
	}
	next.Graph = g
	next.Tree, e = place.Run(g, packsOf(c, g), l, modelOld(s, x))
	return next, api.Answer{Decisions: decisions, Nodes: len(g.Nodes), Dirs: len(next.Tree.Dirs) - 1}, e
}

func modelLimits(l api.Limits) bool {
	return l.Decisions > 0 && l.Decisions < 4097 && l.Nodes > 0 && l.Nodes < 129 && l.Dirs > 0 && l.Dirs < 257 && l.Path > 0 && l.Path < 1025
}

// packsOf is of each node of a graph its package; of the root the zero one.
func packsOf(c *catalog.Catalog, g api.Graph) []api.Package {
	l := make([]api.Package, len(g.Nodes))
	for i, n := range g.Nodes {
		if i > 0 {
			l[i], _ = c.Get(n.Name, n.Version)
		}
	}
	return l
}

// refusal is an error of the table, and whether what it says is so.
type refusal struct {
	code    api.Errno
	applies bool
}

// modelRefusals is what a command says of its arguments, in the table's order; m: the manifest that it would come to.
func modelRefusals(s api.State, x api.Step, m api.Manifest) []refusal {
	r, e := span.Parse(x.Range)
	noName := refusal{api.ErrName, !scan.Name(x.Name)}
	noRange := refusal{api.ErrRange, e != api.OK || len(r) == 0}
	full := refusal{api.ErrFull, !manifest.May(m)}
	three := slices.Concat(s.Manifest.Deps, s.Manifest.Dev, s.Manifest.Optional)
	switch {
	case x.Op == api.StepAdd:
		return []refusal{noName, noRange, {api.ErrArg, x.Kind != 0 && x.Kind != 1 && x.Kind != 2}, full}
	case x.Op == api.StepRemove:
		return []refusal{noName, {api.ErrWant, !has(three, x.Name)}}
	case x.Op == api.StepUpdate && x.Name != "":
		return []refusal{noName, {api.ErrWant, !hasNode(s.Graph, x.Name)}}
	case x.Op == api.StepOverride && x.Range == "":
		return []refusal{noName, {api.ErrWant, !has(s.Manifest.Overrides, x.Name)}}
	case x.Op == api.StepOverride:
		return []refusal{noName, noRange, full}
	}
	return nil
}

func has(l []api.Dep, name string) bool {
	for _, d := range l {
		if d.Name == name {
			return true
		}
	}
	return false
}

func hasNode(g api.Graph, name string) bool {
	for _, n := range g.Nodes[1:] {
		if n.Name == name {
			return true
		}
	}
	return false
}

// modelManifest is the table's column of manifests; of a step that is refused it may be anything.
func modelManifest(s api.State, x api.Step) api.Manifest {
	m := s.Manifest
	r, _ := span.Parse(x.Range)
	if x.Op == api.StepAdd || x.Op == api.StepRemove {
		m.Deps, m.Dev, m.Optional = without(m.Deps, x.Name), without(m.Dev, x.Name), without(m.Optional, x.Name)
	}
	switch {
	case x.Op == api.StepAdd && x.Kind == 0:
		m.Deps = with(m.Deps, x.Name, r)
	case x.Op == api.StepAdd && x.Kind == 1:
		m.Dev = with(m.Dev, x.Name, r)
	case x.Op == api.StepAdd && x.Kind == 2:
		m.Optional = with(m.Optional, x.Name, r)
	case x.Op == api.StepOverride && x.Range == "":
		m.Overrides = without(m.Overrides, x.Name)
	case x.Op == api.StepOverride:
		m.Overrides = with(without(m.Overrides, x.Name), x.Name, r)
	}
	return m
}

func without(l []api.Dep, name string) []api.Dep {
	var out []api.Dep
	for _, d := range l {
		if d.Name != name {
			out = append(out, d)
		}
	}
	return out
}

// with is a list with a name more, which stands behind all that are less.
func with(l []api.Dep, name string, r []api.Span) []api.Dep {
	at := 0
	for at < len(l) && l[at].Name < name {
		at++
	}
	return slices.Insert(slices.Clone(l), at, api.Dep{Name: name, Range: r})
}

// modelPins is the table's column of pins.
func modelPins(s api.State, x api.Step) []api.Pin {
	var l []api.Pin
	for _, p := range graph.Pins(s.Graph) {
		isFree := x.Op == api.StepInstall || x.Op == api.StepUpdate && (x.Name == "" || x.Name == p.Name)
		if !isFree {
			l = append(l, p)
		}
	}
	return l
}

// modelOld is the table's column of old trees.
func modelOld(s api.State, x api.Step) *api.Tree {
	if x.Op == api.StepInstall || x.Op == api.StepDedupe {
		return nil
	}
	return &s.Tree
}

// modelPruned is the table's last column.
func modelPruned(s api.State, x api.Step) bool {
	switch {
	case x.Op == api.StepInstall, x.Op == api.StepAdd && x.Kind == 1:
		return false
	case x.Op == api.StepPrune:
		return true
	}
	return s.Pruned
}
