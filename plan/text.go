package plan

import (
	"strings"

	"halyard/api"
	"halyard/scan"
)

const (
	head   = "plan" // a text's first line
	noData = "-"    // a word must have a byte, so that no bytes at all have a sign of their own
	digits = "0123456789abcdef"
)

// Print writes a plan.
func Print(l []api.Deed) (string, api.Errno) {
	if e := Check(l); e != api.OK {
		return "", e
	}
	lines := [][]string{{head}}
	for _, deed := range l {
		lines = append(lines, lineOf(deed))
	}
	return scan.Join(lines)
}

// Parse reads a plan.
func Parse(text string) ([]api.Deed, api.Errno) {
	// A plan may be as long as it likes.
	lines, e, _ := scan.Lines(text, len(text))
	if e != api.OK {
		return nil, e
	}
	if len(lines) == 0 || len(lines[0]) != 1 || lines[0][0] != head {
		return nil, api.ErrPlan
	}
	var l []api.Deed
	for _, words := range lines[1:] {
		deed, ok := deedOf(words)
		if !ok {
			return nil, api.ErrPlan
		}
		l = append(l, deed)
	}
	if e := Check(l); e != api.OK {
		return nil, e
	}
	return l, api.OK
}

// lineOf is a deed as words.
func lineOf(deed api.Deed) []string {
	words := []string{wordOf(deed.Kind), deed.Path}
	if deed.Kind == api.DeedPut {
		words = append(words, digitsOf(deed.Data))
	}
	return words
}

// deedOf is the deed of a line; false, if the line is that of none. Whether it may be in a plan is left to Check.
func deedOf(words []string) (api.Deed, bool) {
	kind := kindOf(words[0])
	switch {
	case kind == 0:
		return api.Deed{}, false
	case kind != api.DeedPut && len(words) == 2:
		return api.Deed{Kind: kind, Path: words[1]}, true
	case kind == api.DeedPut && len(words) == 3:
		data, ok := bytesOf(words[2])
		return api.Deed{Kind: kind, Path: words[1], Data: data}, ok
	}
	return api.Deed{}, false
}

// wordOf is the word for a kind.
func wordOf(kind int) string {
	switch kind {
	case api.DeedUnlink:
		return "unlink"
	case api.DeedRmdir:
		return "rmdir"
	case api.DeedMkdir:
		return "mkdir"
	case api.DeedPut:
		return "put"
	}
	return ""
}

// kindOf is the kind for which a word stands; 0, if it is for none.
func kindOf(word string) int {
	for kind := api.DeedUnlink; kind <= api.DeedPut; kind++ {
		if wordOf(kind) == word {
			return kind
		}
	}
	return 0
}

// digitsOf is bytes as a word.
func digitsOf(data string) string {
	if data == "" {
		return noData
	}
	var word strings.Builder
	for i := range len(data) {
		word.WriteByte(digits[data[i]>>4])
		word.WriteByte(digits[data[i]&15])
	}
	return word.String()
}

// bytesOf is the bytes that a word stands for; false, if it stands for none.
func bytesOf(word string) (string, bool) {
	if word == noData {
		return "", true
	}
	if len(word)%2 != 0 {
		return "", false
	}
	var data strings.Builder
	for i := 0; i < len(word); i += 2 {
		high, low := strings.IndexByte(digits, word[i]), strings.IndexByte(digits, word[i+1])
		if high < 0 || low < 0 {
			return "", false
		}
		data.WriteByte(byte(high<<4 | low))
	}
	return data.String(), true
}
