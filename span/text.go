package span

import (
	"strings"

	"halyard/api"
	"halyard/vers"
)

// Parse reads a range.
func Parse(text string) ([]api.Span, api.Errno) {
	if len(text) > api.MaxText {
		return nil, api.ErrRange
	}
	var out []api.Span
	for _, alternative := range strings.Split(text, "||") {
		l, ok := words(alternative)
		if !ok {
			return nil, api.ErrRange
		}
		out = join(out, l)
	}
	return notFull(out)
}

// words reads an alternative: what all its words have. False, if it has no word, or one that is none.
func words(text string) ([]api.Span, bool) {
	out, found := All(), false
	for _, w := range strings.Split(text, " ") {
		if w == "" {
			continue
		}
		l, ok := word(w)
		if !ok {
			return nil, false
		}
		out, found = meet(out, l), true
	}
	return out, found
}

func word(text string) ([]api.Span, bool) {
	if text == "*" {
		return All(), true
	}
	at := max(strings.IndexAny(text, "0123456789"), 0)
	v, ok := vers.Parse(text[at:])
	if !ok {
		return nil, false
	}
	return signed(text[:at], v)
}

// signed is what a sign makes of the version behind it. False, if there is no such sign.
func signed(sign string, v api.Version) ([]api.Span, bool) {
	switch sign {
	case "", "=":
		return from(v, v), true
	case "<":
		return cut(All(), from(v, last)), true
	case "<=":
		return from(first, v), true
	case ">":
		return cut(All(), from(first, v)), true
	case ">=":
		return from(v, last), true
	case "^":
		return from(v, lastAlike(v)), true
	case "~":
		return from(v, lastOfMinor(v)), true
	}
	return nil, false
}

// lastAlike is the last version that has this one's Major, if that is not 0; else its Major and Minor, if Minor is not 0; else it is the version itself.
func lastAlike(v api.Version) api.Version {
	switch {
	case v.Major != 0:
		return api.Version{Major: v.Major, Minor: api.MaxPart, Patch: api.MaxPart}
	case v.Minor != 0:
		return lastOfMinor(v)
	}
	return v
}

func lastOfMinor(v api.Version) api.Version {
	return api.Version{Major: v.Major, Minor: v.Minor, Patch: api.MaxPart}
}

// Print writes a range.
func Print(l []api.Span) string {
	if !May(l) {
		return ""
	}
	if len(l) == 0 {
		return "<" + vers.Print(first)
	}
	var texts []string
	for _, s := range l {
		texts = append(texts, printSpan(s))
	}
	return strings.Join(texts, " || ")
}

func printSpan(s api.Span) string {
	switch {
	case s.Lo == s.Hi:
		return vers.Print(s.Lo)
	case s.Lo == first && s.Hi == last:
		return "*"
	case s.Lo == first:
		return "<=" + vers.Print(s.Hi)
	case s.Hi == last:
		return ">=" + vers.Print(s.Lo)
	}
	return ">=" + vers.Print(s.Lo) + " <=" + vers.Print(s.Hi)
}
