package deps

import (
	"slices"
	"strings"

	"halyard/api"
	"halyard/span"
)

const blank = " " // between two words

// Write writes a list's lines, each of which begins with that word.
func Write(text *strings.Builder, word string, l []api.Dep) {
	for _, d := range l {
		text.WriteString(word)
		text.WriteString(blank)
		text.WriteString(d.Name)
		text.WriteString(blank)
		text.WriteString(span.Print(d.Range))
		text.WriteString("\n")
	}
}

// Read reads lists out of lines, one list for each of the words that begin lines, which stand in the words' order. A list may have too many Deps yet, though each line is right by itself and behind the one ahead of it.
func Read(lines [][]string, words []string) ([][]api.Dep, api.Errno) {
	lists := make([][]api.Dep, len(words))
	at := 0
	for _, line := range lines {
		if len(line) < 3 {
			return nil, api.ErrLine
		}
		next := slices.Index(words, line[0])
		// A word that begins no list has a number below all others.
		if next < at {
			return nil, api.ErrLine
		}
		at = next
		d, e := readDep(line[1], line[2:], lists[at])
		if e != api.OK {
			return nil, e
		}
		lists[at] = append(lists[at], d)
	}
	return lists, api.OK
}

// readDep reads what stands behind a line's first word; ahead is what its list has so far.
func readDep(name string, words []string, ahead []api.Dep) (api.Dep, api.Errno) {
	if !mayFollow(ahead, name) {
		return api.Dep{}, api.ErrName
	}
	r, e := span.Parse(strings.Join(words, blank))
	// Too many spans are no text that span takes either, though span has another number for it.
	if e != api.OK || !mayRange(r) {
		return api.Dep{}, api.ErrRange
	}
	return api.Dep{Name: name, Range: r}, api.OK
}
