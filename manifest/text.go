package manifest

import (
	"strings"

	"halyard/api"
	"halyard/deps"
	"halyard/scan"
)

// headWord is the first line.
const headWord = "project"

// Print writes a manifest.
func Print(m api.Manifest) (string, api.Errno) {
	text, ok := written(m)
	if !ok {
		return "", api.ErrText
	}
	return text, api.OK
}

// written is a manifest's text. False, if it may not be: whether its text is too long is not known ahead of writing it.
func written(m api.Manifest) (string, bool) {
	if !sound(m) {
		return "", false
	}
	var text strings.Builder
	text.WriteString(headWord + "\n")
	for _, l := range lists(m) {
		deps.Write(&text, l.word, l.all)
	}
	if text.Len() > api.MaxText {
		return "", false
	}
	return text.String(), true
}

// Parse reads a manifest.
func Parse(text string) (api.Manifest, api.Errno) {
	lines, e, _ := scan.Lines(text, api.MaxText)
	if e != api.OK {
		return api.Manifest{}, e
	}
	m, e := readLines(lines)
	if e != api.OK {
		return api.Manifest{}, e
	}
	if !May(m) {
		return api.Manifest{}, api.ErrText
	}
	return m, api.OK
}

// readLines reads a manifest that may not be yet, though each of its lines is right by itself and behind the one ahead of it.
func readLines(lines [][]string) (api.Manifest, api.Errno) {
	if len(lines) == 0 || len(lines[0]) != 1 || lines[0][0] != headWord {
		return api.Manifest{}, api.ErrLine
	}
	read, e := deps.Read(lines[1:], words(lists(api.Manifest{})))
	if e != api.OK {
		return api.Manifest{}, e
	}
	return api.Manifest{Deps: read[0], Dev: read[1], Optional: read[2], Overrides: read[3]}, api.OK
}

// words is the words of lists, in the lists' order.
func words[T any](lists []list[T]) []string {
	var all []string
	for _, l := range lists {
		all = append(all, l.word)
	}
	return all
}
