package manifest

import (
	"strconv"
	"strings"

	"classroom/api"
)

// Parse returns the manifest of a text, or an error and the number of the line that has it (0 if no line has it).
func Parse(s string) (api.Manifest, int, api.Errno) {
	l := strings.SplitAfter(s, "\n")
	if l[len(l)-1] == "" {
		l = l[:len(l)-1]
	}
	if len(s) > api.MaxText || len(l) > api.MaxLines {
		return api.Manifest{}, 0, api.ErrLong
	}
	r := &reader{}
	for i, line := range l {
		text, ended := strings.CutSuffix(line, "\n")
		if !ended || !r.line(strings.Split(text, " "), i == 0) {
			return api.Manifest{}, i + 1, api.ErrSyntax
		}
	}
	if len(l) == 0 || !r.bounded {
		return api.Manifest{}, len(l) + 1, api.ErrSyntax
	}
	if e := Check(r.manifest); e != api.OK {
		return api.Manifest{}, 0, e
	}
	return r.manifest, 0, api.OK
}

// reader collects a manifest.
type reader struct {
	manifest api.Manifest
	bounded  bool // whether there was a line `bounds`
}

// line reads a line, and reports whether it has the right format at this place.
func (r *reader) line(words []string, first bool) bool {
	for _, w := range words {
		if !isWord(w) {
			return false
		}
	}
	if (words[0] == "task") != first || len(words) != length(words[0]) {
		return false
	}
	m := &r.manifest
	switch words[0] {
	case "task":
		m.Name = words[1]
	case "bounds":
		return r.bounds(words[1:])
	case "protect":
		m.Protect = append(m.Protect, words[1])
	case "allow":
		m.Allow = append(m.Allow, words[1])
	case "pin":
		n, ok := number(words[2])
		m.Pins = append(m.Pins, api.Pin{Path: words[1], Digest: n})
		return ok
	case "test":
		n, ok := number(words[3])
		m.Tests = append(m.Tests, api.Test{Dir: words[1], Name: words[2], Points: int(n)})
		return ok
	}
	return true
}

// isWord reports whether a word has no bytes below 33. Spaces separate words.
func isWord(s string) bool {
	for i := range len(s) {
		if s[i] <= ' ' {
			return false
		}
	}
	return true
}

// length returns the number of words of a line that begins with this word, or 0 if there is no such line.
func length(word string) int {
	switch word {
	case "task", "protect", "allow":
		return 2
	case "pin":
		return 3
	case "bounds", "test":
		return 4
	}
	return 0
}

func (r *reader) bounds(words []string) bool {
	fuel, ok1 := number(words[0])
	calls, ok2 := number(words[1])
	heap, ok3 := number(words[2])
	if !ok1 || !ok2 || !ok3 || r.bounded {
		return false
	}
	r.bounded = true
	r.manifest.Bounds = api.Bounds{Fuel: int(fuel), Calls: int(calls), Heap: int(heap)}
	return true
}

// number reads a decimal number below 2^32 without leading zeros.
func number(s string) (uint32, bool) {
	if len(s) == 0 || s[0] == '0' && s != "0" {
		return 0, false
	}
	for i := range len(s) {
		if !isDigit(s[i]) {
			return 0, false
		}
	}
	n, err := strconv.ParseUint(s, 10, 32)
	return uint32(n), err == nil
}
