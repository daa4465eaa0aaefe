package lines

import (
	"strconv"
	"strings"

	"nearhand/api"
)

// blanks stand between words.
const blanks = " \t"

// Words: those of a line.
func Words(s string) ([]string, api.Errno) {
	var l []string
	for s = strings.TrimLeft(s, blanks); s != ""; s = strings.TrimLeft(s, blanks) {
		word, rest, ok := first(s)
		if !ok || len(word) > api.MaxText || len(l) == api.MaxArgs {
			return nil, api.ErrLine
		}
		l, s = append(l, word), rest
	}
	return l, api.OK
}

// first: the word with which a text begins, the rest of it, and whether the
// word is as it must be.
func first(s string) (word, rest string, ok bool) {
	switch s[0] {
	case '"':
		word, rest, ok = quoted(s[1:])
	case '\'':
		word, rest, ok = bare(s[1:])
	default:
		end := len(s)
		if n := strings.IndexAny(s, blanks); n >= 0 {
			end = n
		}
		return s[:end], s[end:], true
	}
	return word, rest, ok && (rest == "" || strings.Contains(blanks, rest[:1]))
}

// quoted: the word up to the next quotation mark, and what is behind that.
func quoted(s string) (word, rest string, ok bool) {
	var b []byte
	for s != "" {
		c := s[0]
		s = s[1:]
		switch {
		case c == '"':
			return string(b), s, true
		case c == '\\' && s != "":
			c, s = escaped(s)
		}
		b = append(b, c)
	}
	return "", "", false
}

// escaped: the byte that is meant by what stands behind a backslash, and what
// is behind that.
func escaped(s string) (byte, string) {
	c, rest := s[0], s[1:]
	switch c {
	case 'n':
		c = '\n'
	case 'r':
		c = '\r'
	case 't':
		c = '\t'
	case 'x':
		digits := rest[:min(len(rest), 2)]
		// An x without two digits behind it is as any other byte.
		if n, err := strconv.ParseUint(digits, 16, 8); err == nil && len(digits) == 2 {
			return byte(n), rest[2:]
		}
	}
	return c, rest
}

// bare: the word up to the next apostrophe, and what is behind that.
func bare(s string) (word, rest string, ok bool) {
	var b []byte
	for s != "" {
		c := s[0]
		s = s[1:]
		switch {
		case c == '\'':
			return string(b), s, true
		case c == '\\' && s != "" && s[0] == '\'':
			c, s = '\'', s[1:]
		}
		b = append(b, c)
	}
	return "", "", false
}

// Quote: words as a line.
func Quote(l ...string) string {
	var b []byte
	for i, word := range l {
		if i > 0 {
			b = append(b, ' ')
		}
		// A line that begins with an asterisk would be read as a number of words.
		if isPlain(word) && (i > 0 || word[0] != '*') {
			b = append(b, word...)
		} else {
			b = appendQuoted(b, word)
		}
	}
	return string(b)
}

// isPlain: may it stand in a line as it is?
func isPlain(word string) bool {
	for i := range len(word) {
		switch c := word[i]; {
		case c < 33 || c > 126, c == '"', c == '\'', c == '\\':
			return false
		}
	}
	return word != ""
}

// appendQuoted: the word between quotation marks, behind those bytes.
func appendQuoted(b []byte, word string) []byte {
	const digits = "0123456789abcdef"
	b = append(b, '"')
	for i := range len(word) {
		switch c := word[i]; {
		case c == '"' || c == '\\':
			b = append(b, '\\', c)
		case c < 32 || c > 126:
			b = append(b, '\\', 'x', digits[c>>4], digits[c&15])
		default:
			b = append(b, c)
		}
	}
	return append(b, '"')
}
