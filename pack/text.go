package pack

import (
	"strings"

	"halyard/api"
	"halyard/scan"
	"halyard/span"
	"halyard/vers"
)

const (
	headWord = "package" // begins the first line
	blank    = " "       // between two words
	lineEnd  = "\n"      // behind a line's last word
)

// listWords begin the lines of each list.
var listWords = [kinds]string{"needs", "beside", "likes"}

// Print writes a package.
func Print(p api.Package) (string, api.Errno) {
	text, ok := written(p)
	if !ok {
		return "", api.ErrPack
	}
	return text, api.OK
}

// written is a package's text. False, if it may not be: whether its text is too long is not known ahead of writing it.
func written(p api.Package) (string, bool) {
	if !sound(p) {
		return "", false
	}
	var text strings.Builder
	writeLine(&text, headWord, p.Name, vers.Print(p.Version))
	for i, l := range lists(p) {
		for _, d := range l {
			writeLine(&text, listWords[i], d.Name, span.Print(d.Range))
		}
	}
	if text.Len() > api.MaxText {
		return "", false
	}
	return text.String(), true
}

func writeLine(text *strings.Builder, word, name, rest string) {
	text.WriteString(word)
	text.WriteString(blank)
	text.WriteString(name)
	text.WriteString(blank)
	text.WriteString(rest)
	text.WriteString(lineEnd)
}

// Parse reads a package.
func Parse(text string) (api.Package, api.Errno) {
	lines, e, _ := scan.Lines(text, api.MaxText)
	if e != api.OK {
		return api.Package{}, e
	}
	p, e := readLines(lines)
	if e != api.OK {
		return api.Package{}, e
	}
	if !May(p) {
		return api.Package{}, api.ErrPack
	}
	return p, api.OK
}

// readLines reads a package that may not be yet, though each of its lines is right by itself and behind the one ahead of it.
func readLines(lines [][]string) (api.Package, api.Errno) {
	if len(lines) == 0 {
		return api.Package{}, api.ErrLine
	}
	p, e := readHead(lines[0])
	if e != api.OK {
		return api.Package{}, e
	}
	var read [kinds][]api.Dep
	list := 0
	for _, words := range lines[1:] {
		next := listOf(words[0])
		if next < list || len(words) < 3 {
			return api.Package{}, api.ErrLine
		}
		list = next
		d, e := readDep(words[1], words[2:], read[list])
		if e != api.OK {
			return api.Package{}, e
		}
		read[list] = append(read[list], d)
	}
	p.Deps, p.Peers, p.Optional = read[0], read[1], read[2]
	return p, api.OK
}

func readHead(words []string) (api.Package, api.Errno) {
	if words[0] != headWord || len(words) != 3 {
		return api.Package{}, api.ErrLine
	}
	if !scan.Name(words[1]) {
		return api.Package{}, api.ErrName
	}
	v, ok := vers.Parse(words[2])
	if !ok {
		return api.Package{}, api.ErrVersion
	}
	return api.Package{Name: words[1], Version: v}, api.OK
}

// listOf is the number of the list whose lines begin with that word; of no list it is less than all of them.
func listOf(word string) int {
	for i, w := range listWords {
		if w == word {
			return i
		}
	}
	return -1
}

// readDep reads what stands behind a line's first word; ahead is what the list has so far.
func readDep(name string, words []string, ahead []api.Dep) (api.Dep, api.Errno) {
	if !mayFollow(ahead, name) {
		return api.Dep{}, api.ErrName
	}
	r, e := span.Parse(strings.Join(words, blank))
	// Too many spans are no text that span takes either, though span has another number for it.
	if e != api.OK || !mayRange(r) {
		return api.Dep{}, api.ErrRange
	}
	return api.Dep{Name: name, Range: r}, api.OK
}
