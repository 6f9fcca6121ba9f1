package tree

import (
	"strings"

	"halyard/api"
	"halyard/scan"
)

// modules stands ahead of each name of a path's text.
const modules = "/modules/"

// Text is a path as it stands on the disk; the empty text, if a name may not be.
func Text(path []string) string {
	if len(path) == 0 {
		return "/"
	}
	var text strings.Builder
	for _, name := range path {
		if !scan.Name(name) {
			return ""
		}
		text.WriteString(modules)
		text.WriteString(name)
	}
	return text.String()
}

// Parse reads a path.
func Parse(text string) ([]string, bool) {
	if text == "/" {
		return nil, true
	}
	var path []string
	for rest := text; rest != ""; {
		name, ok := firstName(rest)
		if !ok {
			return nil, false
		}
		path = append(path, strings.Clone(name))
		rest = rest[len(modules)+len(name):]
	}
	return path, len(path) > 0
}

// firstName is the name with which a path's text begins.
func firstName(text string) (string, bool) {
	rest, ok := strings.CutPrefix(text, modules)
	name, _, _ := strings.Cut(rest, "/")
	return name, ok && scan.Name(name)
}

// mayPath tells whether a directory other than the root may have a path.
func mayPath(path []string) bool {
	text := Text(path)
	return len(path) > 0 && text != "" && len(text) <= api.MaxPath
}

// above is a path but for its last name.
func above(path []string) []string { return path[:len(path)-1] }

// last is the last name of a path.
func last(path []string) string { return path[len(path)-1] }
