package lines

import (
	"fmt"
	"math/rand"
	"regexp"
	"slices"
	"strings"
	"testing"

	"nearhand/api"
)

// lists are lines, and the words of them.
func lists() []known {
	most := times("x", api.MaxText)
	return []known{
		{"", nil}, {" ", nil}, {"\t", nil}, {" \t \t\t", nil},
		{"a", []string{"a"}}, {"GET k", []string{"GET", "k"}}, {" a\tb  c ", []string{"a", "b", "c"}}, {"\t\ta \t b\t", []string{"a", "b"}},
		{"\"\"", []string{""}}, {"''", []string{""}}, {"\"\" ''\t\"\"", []string{"", "", ""}}, {" \"\"\t", []string{""}}, {"\"a b\" 'c\td'", []string{"a b", "c\td"}}, {"\" \"\t' '", []string{" ", " "}},
		{`"\n\r\t"`, []string{"\n\r\t"}}, {`"\a\b\0\N\R\T\v\f\e\ \/"`, []string{"ab0NRTvfe /"}}, {`"\"" "\\" "\'"`, []string{`"`, `\`, `'`}}, {`"\\n" "\\\n" "\\\""`, []string{`\n`, "\\\n", `\"`}},
		{`"\x00\xff\x0A\xaB\x7e\x22\x5c"`, []string{"\x00\xff\x0a\xab~\"\\"}}, {`"\x414"`, []string{"A4"}}, {`"\X41"`, []string{"X41"}}, {`"\\x41"`, []string{`\x41`}},
		{`"\x" "\x4" "\x4g" "\xg4" "\x 41" "\x\x41" "\x-1" "\x+1" "\x_1" "\x1_"`, []string{"x", "x4", "x4g", "xg4", "x 41", "xA", "x-1", "x+1", "x_1", "x1_"}}, {`"\x\"" "\x4\"" "\x\\"`, []string{`x"`, `x4"`, `x\`}},
		{"\"a'b\" 'a\"b'", []string{"a'b", "a\"b"}}, {`'\''`, []string{"'"}}, {`'\'\'' 'a\'b'`, []string{"''", "a'b"}}, {`'\n\x41\\\"\a'`, []string{`\n\x41\\\"\a`}}, {`'\ '`, []string{`\ `}}, {`'\\''`, []string{`\'`}},
		{`a"b"`, []string{`a"b"`}}, {`a'b c'`, []string{"a'b", "c'"}}, {`a"b c"`, []string{`a"b`, `c"`}}, {`a\nb \x41 \" \`, []string{`a\nb`, `\x41`, `\"`, `\`}}, {`a" a' "" ''`, []string{`a"`, `a'`, "", ""}},
		{"a\nb", []string{"a\nb"}}, {"\n \r \r\n", []string{"\n", "\r", "\r\n"}}, {"\v \f \x00 \x7f \xff", []string{"\v", "\f", "\x00", "\x7f", "\xff"}}, {"\u00a0a\u2003b\u0085", []string{"\u00a0a\u2003b\u0085"}}, {"\"\n\" '\n'", []string{"\n", "\n"}}, {"\"\x80\\\xff\u00e9\\\u00e9\"", []string{"\x80\xff\u00e9\u00e9"}}, {"'\x80\\\xff\u00e9'", []string{"\x80\\\xff\u00e9"}},
		{"*", []string{"*"}}, {"*1 *2", []string{"*1", "*2"}}, {"# a", []string{"#", "a"}}, {"a;b,c=d", []string{"a;b,c=d"}},
		{most, []string{most}}, {"a " + most + " a", []string{"a", most, "a"}}, {`"` + most + `"`, []string{most}}, {"'" + most + "'", []string{most}}, {`"` + times(`\x78`, 4096) + `"`, []string{most}}, {"'" + times(`\'`, 4096) + "'", []string{times("'", 4096)}},
		{times(" ", 10000) + "a" + times("\t", 10000) + "b", []string{"a", "b"}}, {times("a ", 64), letters(64)}, {"a" + times("\ta", 63), letters(64)}, {times(`"a" `, 64), letters(64)}, {times(" ''", 64) + " \t", make([]string, 64)}, {times(most+" ", 64), slices.Repeat([]string{most}, 64)},
	}
}

// wrongs are lines that aren't so.
func wrongs() []string {
	over := times("a", 4097)
	return []string{
		`"`, `'`, `"a`, `'a`, `a "`, `a '`, `"a b`, `'a b`, `"\`, `'\`, `"\"`, `'\'`, `"a\"`, `'a\'`, `"\\\"`, `'\\'`, `"\x`, `"\x4`, `"\x41`, `"\x22`, `"a'`, `'a"`, `"'`, `'"`,
		`"a"b`, `"a""b"`, `"a"'b'`, `""a`, `''x`, `''''`, `""""`, `'a'b`, `'a'"b"`, `'a'\`, `"a"\`, "\"a\"\n", "'a'\r", "\"a\"\v", "'a'\x00", "\"a\"\x85", "\"a\"\u00a0", "\"\"\xff", `"a"b"`, `a "b"c d`,
		times("a ", 65), times("a ", 64) + "b", times("'' ", 65), times(`"" `, 100), times("a\t", 5000), times("a ", 64) + `"`, times("a ", 64) + "''",
		over, "a " + over, over + " a", `"` + over + `"`, "'" + over + "'", `"` + times(`\x61`, 4097) + `"`, `"` + times(`\n`, 4097) + `"`, "'" + times(`\'`, 4097) + "'", times("a", 100000), times("a ", 63) + over,
	}
}

// expectWords asks Words, and tells what isn't as it should be.
func expectWords(t *testing.T, s string, l []string, e api.Errno) {
	t.Helper()
	if m, f := Words(s); !slices.Equal(m, l) || f != e {
		t.Errorf("Words of %d bytes, %q: %d, %q, %d, not %d, %q, %d", len(s), brief(s), len(m), brief(strings.Join(m, "|")), f, len(l), brief(strings.Join(l, "|")), e)
	}
}

// P6.2: alone, and with blanks and tabs around it.
func TestWordsOfKnownLines(t *testing.T) {
	for _, c := range lists() {
		for _, blank := range []string{"", " ", "\t", " \t\t "} {
			expectWords(t, blank+c.s+blank, c.l, api.OK)
		}
	}
}

// P6.2
func TestWordsOfWrongLines(t *testing.T) {
	for _, s := range wrongs() {
		expectWords(t, s, nil, api.ErrLine)
		expectWords(t, " "+s, nil, api.ErrLine)
		expectWords(t, "a\t"+s, nil, api.ErrLine)
	}
}

// P6.2: how many bytes a word may have, and how many words there may be.
func TestWordsOfAllLengthsAndNumbers(t *testing.T) {
	for n := 4090; n <= 4103; n++ {
		word, e := []string{times("a", n)}, api.OK
		if n > 4096 {
			word, e = nil, api.ErrLine
		}
		for _, s := range []string{times("a", n), `"` + times("a", n) + `"`, "'" + times("a", n) + "'", `"` + times(`\a`, n) + `"`, `"` + times(`\x61`, n) + `"`} {
			expectWords(t, s, word, e)
		}
	}
	for n := range 130 {
		l, e := letters(n), api.OK
		if n > 64 {
			l, e = nil, api.ErrLine
		}
		for _, s := range []string{"a ", "\"a\"\t", "'a'  "} {
			expectWords(t, times(s, n), l, e)
			expectWords(t, strings.TrimRight(times(s, n), " \t"), l, e)
		}
	}
}

// P6.2: every byte as a word, in one, between marks, and behind a backslash.
func TestWordsOfEveryByte(t *testing.T) {
	means := map[byte]string{'n': "\n", 'r': "\r", 't': "\t"}
	for i := range 256 {
		c := string([]byte{byte(i)})
		blank := c == " " || c == "\t"
		if blank {
			expectWords(t, "a"+c+"b", []string{"a", "b"}, api.OK)
			expectWords(t, c, nil, api.OK)
		} else {
			expectWords(t, "a"+c+"b", []string{"a" + c + "b"}, api.OK)
		}
		if !blank && c != "\"" && c != "'" {
			expectWords(t, c+"b", []string{c + "b"}, api.OK)
		}
		if c != "\"" && c != "\\" {
			expectWords(t, "\"a"+c+"\"", []string{"a" + c}, api.OK)
		}
		if c != "'" && c != "\\" {
			expectWords(t, "'a"+c+"'", []string{"a" + c}, api.OK)
		}
		meant, ok := means[byte(i)]
		if !ok {
			meant = c
		}
		expectWords(t, "\"\\"+c+"b\"", []string{meant + "b"}, api.OK)
		if c == "'" {
			expectWords(t, "'\\"+c+"b'", []string{"'b"}, api.OK)
		} else {
			expectWords(t, "'\\"+c+"b'", []string{"\\" + c + "b"}, api.OK)
		}
		for _, s := range []string{"\"a\"", "''"} {
			if m, e := Words(s + c); blank != (e == api.OK) || blank != (len(m) == 1) {
				t.Errorf("%q: %q, %d", s+c, m, e)
			}
		}
	}
}

// P6.2: every two bytes behind a backslash and an x.
func TestWordsOfAllPairsOfDigits(t *testing.T) {
	meant := map[string]byte{}
	for i := range 256 {
		for _, form := range []string{"%02x", "%02X"} {
			meant[fmt.Sprintf(form, i)] = byte(i)
		}
		low, great := fmt.Sprintf("%02x", i), fmt.Sprintf("%02X", i)
		meant[low[:1]+great[1:]], meant[great[:1]+low[1:]] = byte(i), byte(i)
	}
	if len(meant) != 22*22 {
		t.Fatal(len(meant))
	}
	for i := range 256 * 256 {
		pair := string([]byte{byte(i >> 8), byte(i)})
		if strings.ContainsAny(pair, "\"\\") {
			continue
		}
		want := "x" + pair + "0"
		if b, ok := meant[pair]; ok {
			want = string([]byte{b, '0'})
		}
		expectWords(t, "\"\\x"+pair+"0\"", []string{want}, api.OK)
	}
}

var (
	blankForm  = regexp.MustCompile(`^[ \t]+`)
	quotedForm = regexp.MustCompile(`(?s)^"((?:[^"\\]|\\.)*)"(?:[ \t]|$)`)
	bareForm   = regexp.MustCompile(`(?s)^'((?:\\*[^'\\]|\\+')*)'(?:[ \t]|$)`)
	plainForm  = regexp.MustCompile(`^[^ \t"'][^ \t]*`)
	backForm   = regexp.MustCompile(`(?s)\\(?:x[0-9a-fA-F]{2}|.)`)
)

// meantBy is what stands for those bytes behind a backslash.
func meantBy(s string) string {
	switch {
	case s == `\n`:
		return "\n"
	case s == `\r`:
		return "\r"
	case s == `\t`:
		return "\t"
	case len(s) == 4 && s[1] == 'x':
		var b byte
		fmt.Sscanf(s[2:], "%02x", &b)
		return string([]byte{b})
	}
	return s[1:]
}

// toldWords are a line's words read in another way: by patterns.
func toldWords(s string) ([]string, api.Errno) {
	var l []string
	for {
		s = s[len(blankForm.FindString(s)):]
		word, used := "", 0
		if s == "" {
			break
		} else if m := quotedForm.FindStringSubmatch(s); m != nil {
			word, used = backForm.ReplaceAllStringFunc(m[1], meantBy), len(m[1])+2
		} else if m := bareForm.FindStringSubmatch(s); m != nil {
			word, used = strings.ReplaceAll(m[1], `\'`, `'`), len(m[1])+2
		} else if m := plainForm.FindString(s); m != "" {
			word, used = m, len(m)
		}
		if used == 0 || len(word) > 4096 || len(l) == 64 {
			return nil, api.ErrLine
		}
		l, s = append(l, word), s[used:]
	}
	return l, api.OK
}

// holdWords asks both, and holds the answers against each other.
func holdWords(t *testing.T, s string) {
	t.Helper()
	l, e := toldWords(s)
	expectWords(t, s, l, e)
}

// P6.2: what is known holds in the other way, too.
func TestTheOtherWayTellsKnownWords(t *testing.T) {
	for _, c := range lists() {
		if m, e := toldWords(c.s); !slices.Equal(m, c.l) || e != api.OK {
			t.Errorf("%q: %q, %d", brief(c.s), brief(strings.Join(m, "|")), e)
		}
	}
	for _, s := range wrongs() {
		if m, e := toldWords(s); len(m) != 0 || e != api.ErrLine {
			t.Errorf("%q: %q, %d", brief(s), m, e)
		}
	}
}

// allOf calls for all texts of at most so many of such bytes.
func allOf(bytes string, n int, call func(s string)) {
	row := []string{""}
	for range n + 1 {
		var longer []string
		for _, s := range row {
			call(s)
			for i := range len(bytes) {
				longer = append(longer, s+bytes[i:i+1])
			}
		}
		row = longer
	}
}

// P6.2: of all short texts of such bytes.
func TestWordsOfAllShortTexts(t *testing.T) {
	hold := func(s string) { holdWords(t, s) }
	allOf("\"'\\ \txn4fG*\r\xff", 4, hold)
	allOf("\"'\\ a", 7, hold)
	allOf("\\x4\"", 7, func(s string) { holdWords(t, `"`+s) })
}

// P6.4
func TestQuoteOfKnownWords(t *testing.T) {
	for _, c := range []struct {
		s string
		l []string
	}{
		{"", nil}, {`""`, []string{""}}, {`"" ""`, []string{"", ""}}, {"a", []string{"a"}}, {"SET k v", []string{"SET", "k", "v"}}, {`SET k "a b"`, []string{"SET", "k", "a b"}},
		{`" "`, []string{" "}}, {`"a " b`, []string{"a ", "b"}}, {`"'"`, []string{"'"}}, {`"\""`, []string{`"`}}, {`"\\"`, []string{`\`}}, {`"a'b\"c\\d"`, []string{`a'b"c\d`}}, {`"\\n\\x41"`, []string{`\n\x41`}},
		{`"\x0a\x0d\x09\x00"`, []string{"\n\r\t\x00"}}, {`"\x1f !\x7f\xff~"`, []string{"\x1f !\x7f\xff~"}}, {`"\xab\xcd\xef"`, []string{"\xab\xcd\xef"}}, {`"\xc3\xa9"`, []string{"\u00e9"}}, {"! ~", []string{"!", "~"}},
		{`"*"`, []string{"*"}}, {`"*2"`, []string{"*2"}}, {`"*" *`, []string{"*", "*"}}, {"a *", []string{"a", "*"}}, {"a *2 *3", []string{"a", "*2", "*3"}}, {`"" *`, []string{"", "*"}}, {"a* *a", []string{"a*", "*a"}}, {`"* "`, []string{"* "}}, {`a "* b" *`, []string{"a", "* b", "*"}},
		{"#$%&()+,-./0:;<=>?@A[]^_`{|}", []string{"#$%&()+,-./0:;<=>?@A[]^_`{|}"}}, {`"` + times(`\x00`, 5000) + `"`, []string{times("\x00", 5000)}}, {times("a", 5000), []string{times("a", 5000)}},
	} {
		if s := Quote(c.l...); s != c.s {
			t.Errorf("%q: %s, not %s", c.l, brief(s), brief(c.s))
		}
	}
	if s := Quote(letters(100)...); s != times("a ", 99)+"a" {
		t.Error(s)
	}
}

// P6.4: every byte, alone, first in a word, and in one, of the first word and of others.
func TestQuoteOfEveryByte(t *testing.T) {
	for i := range 256 {
		c := string([]byte{byte(i)})
		inside, asIs := c, i >= 33 && i <= 126
		switch {
		case c == "\"" || c == "\\":
			inside, asIs = "\\"+c, false
		case c == "'":
			asIs = false
		case i < 32 || i > 126:
			inside = fmt.Sprintf("\\x%02x", i)
		}
		for _, around := range [][2]string{{"", ""}, {"", "b"}, {"a", ""}, {"a", "b"}} {
			word := around[0] + c + around[1]
			quoted := `"` + around[0] + inside + around[1] + `"`
			first, later := word, word
			if !asIs || word[0] == '*' {
				first = quoted
			}
			if !asIs {
				later = quoted
			}
			if s, want := Quote(word, word, word), first+" "+later+" "+later; s != want {
				t.Errorf("%q: %s, not %s", word, s, want)
			}
		}
	}
}

// roundTrip holds words against those of their line.
func roundTrip(t *testing.T, l []string) {
	t.Helper()
	s := Quote(l...)
	expectWords(t, s, l, api.OK)
	if strings.ContainsAny(s, "\n\r") || strings.Trim(s, " ~!\"#$%&'()*+,-./0123456789:;<=>?@ABCDEFGHIJKLMNOPQRSTUVWXYZ[\\]^_`abcdefghijklmnopqrstuvwxyz{|}") != "" {
		t.Errorf("%q", brief(s))
	}
	if len(s) < maxLine {
		expect(t, s+"\n", l, len(s)+1, api.OK)
	}
}

// P6.4: Words of it are these again, and so it is as a line.
func TestWordsOfQuoteAreTheWords(t *testing.T) {
	allOf("\"'\\ *x4\n\x00\xff", 5, func(s string) {
		roundTrip(t, []string{s})
		roundTrip(t, []string{s, s, "a"})
	})
	r := rand.New(rand.NewSource(23))
	for range 20000 {
		roundTrip(t, some(r))
	}
	for _, c := range append(lists(), commands()...) {
		roundTrip(t, c.l)
	}
	b := make([]byte, api.MaxText)
	r.Read(b)
	roundTrip(t, slices.Repeat([]string{string(b)}, 64))
	roundTrip(t, nil)
}

// P6.4: words that Words wouldn't answer are quoted, too.
func TestQuoteOfMoreThanMayBeRead(t *testing.T) {
	expectWords(t, Quote(letters(65)...), nil, api.ErrLine)
	expectWords(t, Quote(times("\n", 4097)), nil, api.ErrLine)
	if s := Quote(times("\n", 4097)); s != `"`+times(`\x0a`, 4097)+`"` {
		t.Error(len(s))
	}
}

// P2: the same arguments have the same answers, whatever was asked between.
func TestWordsAndQuoteDependOnArgumentsAlone(t *testing.T) {
	all := wrongs()
	for _, c := range lists() {
		all = append(all, c.s)
	}
	words, quotes := make([]string, len(all)), make([]string, len(all))
	ask := func(s string) (string, string) {
		l, e := Words(s)
		return fmt.Sprintf("%q %d", l, e), Quote(s, s)
	}
	for i, s := range all {
		words[i], quotes[i] = ask(s)
	}
	for i := len(all) - 1; i >= 0; i-- {
		if w, q := ask(all[i]); w != words[i] || q != quotes[i] {
			t.Errorf("%q: %s, then %s", brief(all[i]), brief(words[i]), brief(w))
		}
	}
}
