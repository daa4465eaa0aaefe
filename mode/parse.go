package mode

import (
	"slices"
	"strings"

	"nearhand/api"
	"nearhand/whole"
)

// The words with another one behind them.
const (
	wordRedirect = "redirect"
	wordPrefix   = "prefix"
)

// Parse: a mode of words.
func Parse(words ...string) (api.Mode, api.Errno) {
	m, ok := read(words)
	if !ok {
		return api.Mode{}, api.ErrSyntax
	}
	if !m.On {
		return api.Mode{}, api.OK
	}
	if m.Bcast && len(m.Prefixes) == 0 {
		m.Prefixes = []string{""}
	}
	slices.Sort(m.Prefixes)
	if !Right(m) {
		return api.Mode{}, api.ErrModes
	}
	return m, api.OK
}

// read: what words say, whether or not it goes together; do they say something?
func read(words []string) (api.Mode, bool) {
	var m api.Mode
	if len(words) == 0 {
		return m, false
	}
	switch small(words[0]) {
	case wordOn:
		m.On = true
	case wordOff:
	default:
		return m, false
	}
	for rest := words[1:]; len(rest) > 0; {
		used := readOne(&m, rest)
		if used == 0 {
			return m, false
		}
		rest = rest[used:]
	}
	return m, true
}

// readOne takes in what the first word says, with the one behind it where it asks for one: how many were used, 0 if they say nothing.
func readOne(m *api.Mode, words []string) int {
	switch small(words[0]) {
	case wordBcast:
		m.Bcast = true
	case wordOptIn:
		m.OptIn = true
	case wordOptOut:
		m.OptOut = true
	case wordNoLoop:
		m.NoLoop = true
	default:
		return readTwo(m, words)
	}
	return 1
}

// readTwo takes in what the first two words say: how many were used, 0 if they say nothing.
func readTwo(m *api.Mode, words []string) int {
	if len(words) < 2 {
		return 0
	}
	switch small(words[0]) {
	case wordRedirect:
		n, e := whole.Parse(words[1])
		if e != api.OK || n < 0 || n > maxRedirect {
			return 0
		}
		m.Redirect = int(n)
	case wordPrefix:
		m.Prefixes = append(m.Prefixes, words[1])
	default:
		return 0
	}
	return 2
}

// small: with small letters for great ones. A letter beyond A to Z is no word's, though others fold it to one.
func small(word string) string {
	return strings.Map(func(r rune) rune {
		if 'A' <= r && r <= 'Z' {
			return r + 'a' - 'A'
		}
		return r
	}, word)
}
