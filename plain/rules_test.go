package plain_test

import (
	"go/ast"
	"go/parser"
	"go/token"
	"path/filepath"
	"slices"
	"strconv"
	"strings"
	"testing"

	"halyard/api"
)

// parsed is the program's files in a package's folder.
func parsed(t *testing.T, folder string) []*ast.File {
	t.Helper()
	paths, err := filepath.Glob(filepath.Join("..", folder, "*.go"))
	if err != nil || len(paths) == 0 {
		t.Fatal(folder, err)
	}
	var l []*ast.File
	for _, path := range paths {
		if strings.HasSuffix(path, "_test.go") {
			continue
		}
		f, err := parser.ParseFile(token.NewFileSet(), path, nil, 0)
		if err != nil {
			t.Fatal(err)
		}
		l = append(l, f)
	}
	return l
}

// imported is the project's packages that one imports, by their folders.
func imported(t *testing.T, folder string) []string {
	t.Helper()
	var l []string
	for _, f := range parsed(t, folder) {
		for _, i := range f.Imports {
			path, err := strconv.Unquote(i.Path.Value)
			if err != nil {
				t.Fatal(err)
			}
			if other, own := strings.CutPrefix(path, "halyard/"); own {
				l = append(l, other)
			}
		}
	}
	slices.Sort(l)
	return slices.Compact(l)
}

// It asks neither resolve nor place nor edit, also by way of others; of the layers it stands on those alone that the chapter names.
func TestItAsksNeither(t *testing.T) {
	layers := []string{"disk", "vers", "span", "scan", "pack", "manifest", "lock", "catalog", "wants", "graph", "resolve", "tree", "walkup", "place", "image", "delta", "plan", "journal", "edit", "project", "cli", "chart", "lines"}
	named := []string{"span", "scan", "manifest", "pack", "catalog", "wants", "graph", "tree", "image"}
	own := imported(t, "plain")
	for _, p := range own {
		if slices.Contains(layers, p) && !slices.Contains(named, p) {
			t.Error("plain imports", p)
		}
	}
	reached := own
	for i := 0; i < len(reached); i++ {
		for _, p := range imported(t, reached[i]) {
			if !slices.Contains(reached, p) {
				reached = append(reached, p)
			}
		}
	}
	if len(reached) < 12 {
		t.Error("too few packages:", reached)
	}
	for _, p := range []string{"resolve", "place", "edit"} {
		if slices.Contains(reached, p) {
			t.Error("plain reaches", p)
		}
	}
}

// calls is of each function of the package the names of those that it calls or hands on.
func calls(t *testing.T) map[string][]string {
	t.Helper()
	m := map[string][]string{}
	for _, f := range parsed(t, "plain") {
		for _, d := range f.Decls {
			if d, is := d.(*ast.FuncDecl); is {
				ast.Inspect(d.Body, func(n ast.Node) bool {
					if i, is := n.(*ast.Ident); is {
						m[d.Name.Name] = append(m[d.Name.Name], i.Name)
					}
					return true
				})
			}
		}
	}
	return m
}

// Ways: choices nest in one another, and directories are gone through, by recursion; there is neither a goto nor a label.
func TestRecursion(t *testing.T) {
	m := calls(t)
	for _, way := range [][]string{{"settle", "try", "bind", "settle"}, {"try", "try"}, {"goThrough", "goThrough"}, {"look", "look"}} {
		for i := range len(way) - 1 {
			if !slices.Contains(m[way[i]], way[i+1]) {
				t.Errorf("%s does not call %s", way[i], way[i+1])
			}
		}
	}
	for _, f := range parsed(t, "plain") {
		ast.Inspect(f, func(n ast.Node) bool {
			if _, is := n.(*ast.LabeledStmt); is {
				t.Error("a label")
			}
			return true
		})
	}
}

// The limits, errors and steps of this layer.
func TestNumbers(t *testing.T) {
	if !slices.Equal([]int{api.MaxDecisions, api.MaxNodes, api.MaxDirs, api.MaxPath, api.MaxList, api.MaxText}, []int{4096, 128, 256, 1024, 16, 4096}) {
		t.Error("limits")
	}
	if !slices.Equal([]api.Errno{api.OK, api.ErrArg, api.ErrRange, api.ErrName, api.ErrFull, api.ErrUnsat, api.ErrBudget, api.ErrTooMany, api.ErrGraph, api.ErrTooLong, api.ErrTooDeep, api.ErrTree, api.ErrWant, api.ErrOp}, []api.Errno{0, 1, 21, 23, 26, 30, 31, 32, 33, 40, 41, 42, 50, 51}) {
		t.Error("errors")
	}
	if !slices.Equal(ops, []int{2, 3, 4, 5, 6, 7, 8}) {
		t.Error("steps:", ops)
	}
}
