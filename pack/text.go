package pack

import (
	"strings"

	"halyard/api"
	"halyard/deps"
	"halyard/scan"
	"halyard/vers"
)

// headWord begins the first line.
const headWord = "package"

// listWords begin the lines of each list.
func listWords() []string { return []string{"needs", "beside", "likes"} }

// Print writes a package.
func Print(p api.Package) (string, api.Errno) {
	text, ok := written(p)
	if !ok {
		return "", api.ErrPack
	}
	return text, api.OK
}

// written is a package's text. False, if it may not be: whether its text is too long is not known ahead of writing it.
func written(p api.Package) (string, bool) {
	if !sound(p) {
		return "", false
	}
	var text strings.Builder
	text.WriteString(headWord + " " + p.Name + " " + vers.Print(p.Version) + "\n")
	words := listWords()
	for i, l := range lists(p) {
		deps.Write(&text, words[i], l)
	}
	if text.Len() > api.MaxText {
		return "", false
	}
	return text.String(), true
}

// Parse reads a package.
func Parse(text string) (api.Package, api.Errno) {
	lines, e, _ := scan.Lines(text, api.MaxText)
	if e != api.OK {
		return api.Package{}, e
	}
	p, e := readLines(lines)
	if e != api.OK {
		return api.Package{}, e
	}
	if !May(p) {
		return api.Package{}, api.ErrPack
	}
	return p, api.OK
}

// readLines reads a package that may not be yet, though each of its lines is right by itself and behind the one ahead of it.
func readLines(lines [][]string) (api.Package, api.Errno) {
	if len(lines) == 0 {
		return api.Package{}, api.ErrLine
	}
	p, e := readHead(lines[0])
	if e != api.OK {
		return api.Package{}, e
	}
	read, e := deps.Read(lines[1:], listWords())
	if e != api.OK {
		return api.Package{}, e
	}
	p.Deps, p.Peers, p.Optional = read[0], read[1], read[2]
	return p, api.OK
}

func readHead(words []string) (api.Package, api.Errno) {
	if words[0] != headWord || len(words) != 3 {
		return api.Package{}, api.ErrLine
	}
	if !scan.Name(words[1]) {
		return api.Package{}, api.ErrName
	}
	v, ok := vers.Parse(words[2])
	if !ok {
		return api.Package{}, api.ErrVersion
	}
	return api.Package{Name: words[1], Version: v}, api.OK
}
