package lines

import (
	"bytes"
	"math/rand"
	"regexp"
	"slices"
	"strconv"
	"strings"
	"testing"

	"nearhand/api"
	"nearhand/wire"
)

// The calls' signatures are part of what is promised.
var (
	_ func() *Lines                            = New
	_ func(*Lines, []byte)                     = (*Lines).Feed
	_ func(*Lines) ([]string, bool, api.Errno) = (*Lines).Next
	_ func(*Lines) int                         = (*Lines).Left
	_ func([]byte) ([]string, int, api.Errno)  = Parse
	_ func(string) ([]string, api.Errno)       = Words
	_ func(...string) string                   = Quote
)

var times = strings.Repeat

// brief is the beginning of what is told of a fault.
func brief(s string) string { return s[:min(len(s), 80)] }

// known are bytes, and the words of them.
type known struct {
	s string
	l []string
}

// letters are so many words of a letter.
func letters(n int) []string { return slices.Repeat([]string{"a"}, n) }

// commands are bytes that are read as words.
func commands() []known {
	most := times("x", api.MaxText)
	return []known{
		{"PING\n", []string{"PING"}}, {"PING\r\n", []string{"PING"}}, {"SET k \"a b\"\n", []string{"SET", "k", "a b"}}, {" \tGET\t k \t\r\n", []string{"GET", "k"}},
		{"a\r\r\n", []string{"a\r"}}, {"a\rb\n", []string{"a\rb"}}, {"\r \r\r\n", []string{"\r", "\r"}}, {"\"\"\r\n", []string{""}}, {"''\n", []string{""}}, {"'a\r'\r\n", []string{"a\r"}}, {"\"\\n\\r\"\n", []string{"\n\r"}},
		{"a*\n", []string{"a*"}}, {" *1\r\n", []string{"*1"}}, {"\"*1\"\n", []string{"*1"}}, {"$1\r\n", []string{"$1"}}, {"+OK\r\n", []string{"+OK"}}, {"\x00\xff\x80\n", []string{"\x00\xff\x80"}},
		{most + "\n", []string{most}}, {most + "\r\n", []string{most}}, {"\"" + most + "\" a\n", []string{most, "a"}}, {times("a ", 64) + "\n", letters(64)},
		{times(" ", 4198) + "a\n", []string{"a"}}, {times(" ", 4197) + "a\r\n", []string{"a"}},
		{"*1\r\n$4\r\nPING\r\n", []string{"PING"}}, {"*2\r\n$3\r\nGET\r\n$1\r\nk\r\n", []string{"GET", "k"}}, {"*3\r\n$3\r\nSET\r\n$1\r\nk\r\n$4\r\na\r\nb\r\n", []string{"SET", "k", "a\r\nb"}},
		{"*1\r\n$0\r\n\r\n", []string{""}}, {"*2\r\n$0\r\n\r\n$0\r\n\r\n", []string{"", ""}}, {"*1\r\n$2\r\n\r\n\r\n", []string{"\r\n"}}, {"*1\r\n$1\r\n\n\r\n", []string{"\n"}}, {"*1\r\n$5\r\n*1\r\n\x00\r\n", []string{"*1\r\n\x00"}},
		{"*1\r\n$4096\r\n" + most + "\r\n", []string{most}}, {"*1\r\n$4096\r\n" + times("\r", 4096) + "\r\n", []string{times("\r", 4096)}}, {"*64\r\n" + times("$1\r\na\r\n", 64), letters(64)}, {"*64\r\n" + times("$4096\r\n"+most+"\r\n", 64), slices.Repeat([]string{most}, 64)},
	}
}

// voids are bytes that are read as no words.
func voids() []string {
	return []string{"\n", "\r\n", " \n", "\t \r\n", " \t\n", times(" ", 4199) + "\n", times("\t", 4198) + "\r\n", "*0\r\n", "*-1\r\n"}
}

// breaks are bytes that can't begin a command, though all but the last one can.
func breaks() []string {
	a := times("a", 5000)
	l := []string{
		a[:4200], times(" ", 4200), times("\r", 4200), a[:4199] + "\r", "\"" + times("\\n", 2099) + "\"",
		"*\n", "*1\n", "*\ra", "*\r\r", "*1\r*", "*1\r\x00", "*" + a[:4200], "*" + times("1", 4199) + "\r", "*-1\n", "*0\n", "*0\r1",
		"*1\r\n$\n", "*1\r\n$1\n", "*1\r\n$1\r1", "*1\r\n$" + a[:4200], "*1\r\n$" + times("0", 4199) + "\r", "*2\r\n$1\r\na\r\n$0\n",
	}
	for _, s := range []string{
		"\"", "'", "\"a", "'a", "a \"", "\"a\"b", "'a'b", "\"a\"'b'", "''x", "\"\"\"\"", "''''", "'\\'", "\"\\\"", "\"\\", "'\\", "\"a\"\v", "\"a\"\r\r", "'a'\x00", "SET k \"a", "SET k 'a\"",
		a[:4097], "a " + a[:4097], "\"" + a[:4097] + "\"", "'" + a[:4097] + "'", a[:4197], times("a ", 65), times("a ", 64) + "'", times("'' ", 65),
	} {
		l = append(l, s+"\n")
	}
	for _, s := range []string{
		"", "-", "-2", "-0", "00", "01", "-01", "+1", "+0", " 1", "1 ", "1.0", "a", "1a", "1e1", "0x1", "1_0", "65", "66", "100", "1000", "9223372036854775807", "9223372036854775808", "18446744073709551617", "4294967297", "-4294967297", "-9223372036854775808", "-18446744073709551616", "\x00", "\xff",
	} {
		l = append(l, "*"+s+"\r\n")
	}
	for _, s := range []string{
		"", "-", "-1", "-2", "-0", "00", "01", "+1", "+0", " 1", "1 ", "1.0", "a", "1a", "4097", "4098", "5000", "10000", "9223372036854775807", "9223372036854775808", "18446744073709551617", "4294967297", "-4294967297", "-9223372036854775808", "-18446744073709551616", "\x00",
	} {
		l = append(l, "*1\r\n$"+s+"\r\n", "*2\r\n$1\r\na\r\n$"+s+"\r\n")
	}
	for _, s := range []string{"*1\r\n$0\r\n", "*1\r\n$2\r\nab", "*1\r\n$2\r\n\r\n", "*3\r\n$1\r\na\r\n$0\r\n", "*1\r\n$4096\r\n" + a[:4096]} {
		l = append(l, s+"x", s+"\n", s+"\x00", s+"\rx", s+"\r\r")
	}
	for b := range 256 {
		if c := string([]byte{byte(b)}); c != "$" {
			l = append(l, "*1\r\n"+c, "*64\r\n"+c, "*2\r\n$1\r\na\r\n"+c)
		}
	}
	return l
}

// halves are bytes that end too early.
func halves() []string {
	a := times("a", 5000)
	return []string{
		"", "a", "\"", "'", "\"a\"b", "\r", " ", "a\r", "\"a\"\r", a[:4199], a[:4198] + "\r", times("a ", 65), times("\r", 4199), "PING ",
		"*", "*1", "*\r", "*a", "*-2", "*65\r", "*-1\r", "*0\r", "*" + a[:4199], "*" + a[:4198] + "\r", "*" + times("0", 4199), "*1\r\n", "*64\r\n", "*1\r\n$", "*1\r\n$1", "*1\r\n$-1", "*1\r\n$-1\r", "*1\r\n$4097\r", "*1\r\n$a", "*1\r\n$" + a[:4199], "*1\r\n$" + a[:4198] + "\r",
		"*1\r\n$0\r\n", "*1\r\n$0\r\n\r", "*1\r\n$2\r\n", "*1\r\n$2\r\na", "*1\r\n$2\r\nab", "*1\r\n$2\r\nab\r", "*1\r\n$2\r\n\r\n", "*1\r\n$4096\r\n" + a[:4095], "*1\r\n$4096\r\n" + a[:4096], "*2\r\n$1\r\na\r\n", "*2\r\n$1\r\na\r\n$", "*64\r\n" + times("$1\r\na\r\n", 63),
	}
}

// expect asks Parse, and tells what isn't as it should be.
func expect(t *testing.T, s string, l []string, used int, e api.Errno) {
	t.Helper()
	m, n, f := Parse([]byte(s))
	if !slices.Equal(m, l) || n != used || f != e {
		t.Errorf("Parse of %d bytes, %q: %d words, %d, %d, not %d, %d, %d", len(s), brief(s), len(m), n, f, len(l), used, e)
	}
}

func TestErrorsHaveTheirNumbers(t *testing.T) {
	if api.OK != 0 || api.ErrLine != 61 || api.MaxText != 4096 || api.MaxArgs != 64 {
		t.Error(api.OK, api.ErrLine, api.MaxText, api.MaxArgs)
	}
}

// behinds are bytes that may come behind any others.
func behinds() []string {
	return []string{"", "\r", "\n", "\r\n", "x", "*", "*1\r\n", "PING\r\n", "\"", times("\xff", 5000), times("\n", 5000)}
}

// P6.1: with nothing behind a command, and with anything.
func TestParseOfKnownCommands(t *testing.T) {
	for _, c := range commands() {
		for _, behind := range behinds() {
			expect(t, c.s+behind, c.l, len(c.s), api.OK)
		}
		for n := range min(len(c.s), 300) {
			expect(t, c.s[:n], nil, 0, api.OK)
		}
		for n := 1; n <= 10; n++ {
			expect(t, c.s[:max(len(c.s)-n, 0)], nil, 0, api.OK)
		}
	}
}

// P6.1: bytes of no words are told by their number alone.
func TestParseOfNoWords(t *testing.T) {
	for _, s := range voids() {
		for _, behind := range behinds() {
			expect(t, s+behind, nil, len(s), api.OK)
		}
		for n := range min(len(s), 300) {
			expect(t, s[:n], nil, 0, api.OK)
		}
		expect(t, s[:len(s)-1], nil, 0, api.OK)
	}
}

// P6.1
func TestParseOfBytesThatEndTooEarly(t *testing.T) {
	for _, s := range halves() {
		expect(t, s, nil, 0, api.OK)
	}
	expect(t, "", nil, 0, api.OK)
	if l, used, e := Parse(nil); len(l) != 0 || used != 0 || e != api.OK {
		t.Error(l, used, e)
	}
}

// P6.1: the first byte that can't be so is told at once, whatever is behind it.
func TestParseOfBytesThatAreNoCommand(t *testing.T) {
	for _, s := range breaks() {
		expect(t, s[:len(s)-1], nil, 0, api.OK)
		for _, behind := range behinds() {
			expect(t, s+behind, nil, 0, api.ErrLine)
		}
	}
}

// P6.1: every line's end is looked for among 4200 bytes.
func TestParseOfLongLines(t *testing.T) {
	for n := 4090; n <= 4210; n++ {
		early, late := api.OK, api.OK
		if n >= 4200 {
			early = api.ErrLine
		}
		if n >= 4199 {
			late = api.ErrLine
		}
		for _, ahead := range []string{"*", "*1\r\n$", "*2\r\n$1\r\na\r\n$"} {
			expect(t, ahead+times("0", n), nil, 0, early)
			expect(t, ahead+times("0", n)+"\r", nil, 0, late)
			expect(t, ahead+times("0", n)+"\r\n", nil, 0, api.ErrLine)
		}
		line := times(" ", n-3) + "a b"
		words, used := []string{"a", "b"}, n+1
		if early != api.OK {
			words, used = nil, 0
		}
		expect(t, line, nil, 0, early)
		expect(t, line+"\n", words, used, early)
		if used++; late != api.OK {
			words, used = nil, 0
		}
		expect(t, line+"\r", nil, 0, late)
		expect(t, line+"\r\n", words, used, late)
		if word := times("a", n); n > api.MaxText {
			expect(t, word+"\n", nil, 0, api.ErrLine)
		} else {
			expect(t, word+"\n", []string{word}, n+1, api.OK)
		}
	}
}

// P6.1: how many bytes a word may have, and how many words there may be.
func TestParseOfAllLengthsAndNumbers(t *testing.T) {
	body := times("ab\r\n*1$", 600)
	for n := 0; n <= 4100; n++ {
		s := "*1\r\n$" + strconv.Itoa(n) + "\r\n"
		if n > api.MaxText {
			expect(t, s, nil, 0, api.ErrLine)
			continue
		}
		expect(t, s, nil, 0, api.OK)
		expect(t, s+body[:n]+"\r", nil, 0, api.OK)
		expect(t, s+body[:n]+"\r\nx", []string{body[:n]}, len(s)+n+2, api.OK)
		expect(t, s+body[:n]+"\n", nil, 0, api.ErrLine)
	}
	for n := -70; n <= 200; n++ {
		s := "*" + strconv.Itoa(n) + "\r\n"
		all := s + times("$1\r\na\r\n", max(n, 0))
		switch {
		case n < -1 || n > 64:
			expect(t, s, nil, 0, api.ErrLine)
			expect(t, all, nil, 0, api.ErrLine)
		case n < 1:
			expect(t, s, nil, len(s), api.OK)
		default:
			expect(t, s, nil, 0, api.OK)
			expect(t, all[:len(all)-1], nil, 0, api.OK)
			expect(t, all+"$1\r\nb\r\n", letters(n), len(all), api.OK)
		}
	}
}

var (
	lineForm  = regexp.MustCompile(`^([^\r\n]*)\r\n`)
	partForm  = regexp.MustCompile(`^[^\r\n]*\r?$`)
	countForm = regexp.MustCompile(`^(-1|[0-9]|[1-5][0-9]|6[0-4])$`)
	sizeForm  = regexp.MustCompile(`^([0-9]|[1-9][0-9]{1,2}|[1-3][0-9]{3}|40[0-8][0-9]|409[0-6])$`)
)

// toldLine is a line read in another way: what it says, and how many bytes it
// has; none of them, if it isn't there, or is of another form.
func toldLine(s string, form *regexp.Regexp) (int, int, api.Errno) {
	m := lineForm.FindStringSubmatch(s)
	if m == nil && len(s) < 4200 && partForm.MatchString(s) {
		return 0, 0, api.OK
	}
	if m == nil || len(m[0]) > 4200 || !form.MatchString(m[1]) {
		return 0, 0, api.ErrLine
	}
	n, _ := strconv.Atoi(m[1])
	return n, len(m[0]), api.OK
}

// told is a command read in another way: by patterns.
func told(s string) ([]string, int, api.Errno) {
	if !strings.HasPrefix(s, "*") {
		return toldTyped(s)
	}
	n, at, e := toldLine(s[1:], countForm)
	if at == 0 {
		return nil, 0, e
	}
	var l []string
	for at++; len(l) < n; {
		if at == len(s) {
			return nil, 0, api.OK
		}
		if s[at] != '$' {
			return nil, 0, api.ErrLine
		}
		size, used, e := toldLine(s[at+1:], sizeForm)
		if used == 0 {
			return nil, 0, e
		}
		at += 1 + used
		behind := s[min(at+size, len(s)):]
		if at+size > len(s) || behind == "" || behind == "\r" {
			return nil, 0, api.OK
		}
		if !strings.HasPrefix(behind, "\r\n") {
			return nil, 0, api.ErrLine
		}
		l = append(l, s[at:at+size])
		at += size + 2
	}
	return l, at, api.OK
}

// toldTyped is a line by hand read in another way.
func toldTyped(s string) ([]string, int, api.Errno) {
	line, _, there := strings.Cut(s, "\n")
	if len(line) >= 4200 {
		return nil, 0, api.ErrLine
	}
	if !there {
		return nil, 0, api.OK
	}
	l, e := toldWords(strings.TrimSuffix(line, "\r"))
	if e != api.OK {
		return nil, 0, e
	}
	return l, len(line) + 1, api.OK
}

// hold asks both, and holds the answers against each other.
func hold(t *testing.T, s string) {
	t.Helper()
	l, used, e := told(s)
	expect(t, s, l, used, e)
}

// P6.1: what is known holds in the other way, too.
func TestTheOtherWayTellsWhatIsKnown(t *testing.T) {
	check := func(s string, l []string, used int, e api.Errno) {
		if m, n, f := told(s); !slices.Equal(m, l) || n != used || f != e {
			t.Errorf("%q: %d words, %d, %d", brief(s), len(m), n, f)
		}
	}
	for _, c := range commands() {
		check(c.s, c.l, len(c.s), api.OK)
	}
	for _, s := range voids() {
		check(s, nil, len(s), api.OK)
	}
	for _, s := range halves() {
		check(s, nil, 0, api.OK)
	}
	for _, s := range breaks() {
		check(s, nil, 0, api.ErrLine)
	}
}

// holdAll holds a beginning, and all rows of at most so many pieces behind it.
func holdAll(t *testing.T, s string, n int, pieces []string) {
	t.Helper()
	hold(t, s)
	// Behind what can't be so nothing changes any more.
	if _, _, e := told(s); n == 0 || e != api.OK {
		return
	}
	for _, p := range pieces {
		holdAll(t, s+p, n-1, pieces)
	}
}

// P6.1: of all short rows of such pieces.
func TestParseOfAllShortRows(t *testing.T) {
	pieces := []string{"*", "$", "-", "0", "1", "2", "\r", "\n", "\r\n", " ", "\t", "\"", "'", "\\", "x", "\x00"}
	few := []string{"*", "$", "\r\n", "1", "0"}
	holdAll(t, "", 4, pieces)
	holdAll(t, "", 7, few)
	for _, s := range []string{"*1\r\n", "*2\r\n$1\r\n", "*2\r\n$0\r\n\r\n", "*1\r\n$2\r\na", "*-", "*6", "*1\r\n$409", "*1\r\n$-", "SET k"} {
		holdAll(t, s, 3, pieces)
	}
}

// some is any command's words.
func some(r *rand.Rand) []string {
	var l []string
	for range 1 + r.Intn([]int{3, 3, 10, 64}[r.Intn(4)]) {
		b := make([]byte, r.Intn(20))
		r.Read(b)
		l = append(l, []string{"", "GET", "k", "a b", "\r\n", "*1\r\n$1\r\na\r\n", "'\"\\", times("z", r.Intn(60)), string(b)}[r.Intn(9)])
	}
	return l
}

// P6.1: what layer 4 writes is read as what it was.
func TestParseOfWrittenCommands(t *testing.T) {
	r := rand.New(rand.NewSource(7))
	for range 3000 {
		l := some(r)
		b := string(wire.Command(l...))
		expect(t, b, l, len(b), api.OK)
		expect(t, b+b, l, len(b), api.OK)
		expect(t, b[:r.Intn(len(b))], nil, 0, api.OK)
	}
	expect(t, string(wire.Command()), nil, 4, api.OK)
	expect(t, string(wire.Command(letters(65)...)), nil, 0, api.ErrLine)
	expect(t, string(wire.Command(times("a", 4097))), nil, 0, api.ErrLine)
}

// spoilt is a row of bytes with some of them changed.
func spoilt(r *rand.Rand, s string) string {
	b := []byte(s)
	const some = "*$\r\n0123456789- \t\"'\\xa\x00\xff"
	for range 1 + r.Intn(3) {
		i := r.Intn(len(b) + 1)
		switch r.Intn(4) {
		case 0:
			b = slices.Insert(b, i, some[r.Intn(len(some))])
		case 1:
			b = b[:i]
		default:
			if i < len(b) {
				b[i] = some[r.Intn(len(some))]
			}
		}
	}
	return string(b)
}

// P6.1: of many commands that are nearly right.
func TestParseOfSpoiltCommands(t *testing.T) {
	r := rand.New(rand.NewSource(11))
	for range 20000 {
		l := some(r)
		hold(t, spoilt(r, string(wire.Command(l...))))
		hold(t, spoilt(r, Quote(l...)+"\r\n"))
	}
	l := commands()
	for range 3000 {
		hold(t, spoilt(r, l[r.Intn(len(l))].s))
	}
}

// next asks Lines, and tells what isn't as it should be.
func next(t *testing.T, l *Lines, words []string, e api.Errno, left int) {
	t.Helper()
	if m, ok, f := l.Next(); !slices.Equal(m, words) || ok != (len(words) > 0) || f != e || l.Left() != left {
		t.Errorf("Next: %d words, %t, %d, not %d, %d; %d bytes left, not %d", len(m), ok, f, len(words), e, l.Left(), left)
	}
}

// P6.3
func TestNewHasNoBytes(t *testing.T) {
	l := New()
	if l.Left() != 0 {
		t.Error(l.Left())
	}
	next(t, l, nil, api.OK, 0)
	l.Feed(nil)
	l.Feed([]byte{})
	next(t, l, nil, api.OK, 0)
	if New() == New() {
		t.Error("one for two")
	}
}

// P6.3: half a command, and the other half later.
func TestCommandsThatComeInHalves(t *testing.T) {
	for _, c := range commands() {
		for _, n := range []int{1, len(c.s) / 2, len(c.s) - 2, len(c.s) - 1} {
			n = max(n, 0)
			l := New()
			l.Feed([]byte(c.s[:n]))
			if l.Left() != n {
				t.Error(l.Left(), n)
			}
			next(t, l, nil, api.OK, n)
			next(t, l, nil, api.OK, n)
			l.Feed([]byte(c.s[n:] + "PI"))
			if l.Left() != len(c.s)+2 {
				t.Error(l.Left(), len(c.s)+2)
			}
			next(t, l, c.l, api.OK, 2)
			next(t, l, nil, api.OK, 2)
			l.Feed([]byte("NG\r\n"))
			next(t, l, []string{"PING"}, api.OK, 0)
			next(t, l, nil, api.OK, 0)
		}
	}
}

// P6.3: bytes of no words are gone with the command behind them, with the
// error, and when nothing is behind them.
func TestBytesOfNoWordsAreGone(t *testing.T) {
	for _, s := range append(voids(), "\n\r\n", "*0\r\n*-1\r\n*0\r\n", "\n*-1\r\n \t\n", times("\n", 5000), times("*0\r\n", 5000)) {
		l := New()
		l.Feed([]byte(s))
		if l.Left() != len(s) {
			t.Error(l.Left(), len(s))
		}
		next(t, l, nil, api.OK, 0)
		l.Feed([]byte(s + "*"))
		next(t, l, nil, api.OK, 1)
		l.Feed([]byte("1\r\n$1\r\na\r\n" + s + "b\n" + s))
		next(t, l, []string{"a"}, api.OK, 2*len(s)+2)
		next(t, l, []string{"b"}, api.OK, len(s))
		next(t, l, nil, api.OK, 0)
		l.Feed([]byte(s + s + "'\n" + s))
		next(t, l, nil, api.ErrLine, 0)
		l.Feed([]byte(s))
		next(t, l, nil, api.ErrLine, 0)
	}
}

// P6.3: at an error all bytes are gone, and it is the answer from then on.
func TestLinesThatFailed(t *testing.T) {
	for _, s := range breaks() {
		l := New()
		l.Feed([]byte("a\n\n" + s[:len(s)-1]))
		next(t, l, []string{"a"}, api.OK, len(s))
		next(t, l, nil, api.OK, len(s)-1)
		l.Feed([]byte(s[len(s)-1:] + "PING\r\n"))
		// They haven't failed before they are asked.
		if l.Left() != len(s)+6 {
			t.Error(l.Left(), len(s)+6)
		}
		next(t, l, nil, api.ErrLine, 0)
		next(t, l, nil, api.ErrLine, 0)
		for _, more := range []string{"PING\r\n", "", "*0\r\n", s} {
			l.Feed([]byte(more))
			if l.Left() != 0 {
				t.Error(l.Left())
			}
			next(t, l, nil, api.ErrLine, 0)
		}
	}
}

// piece is bytes, with the words of them, if there are any.
func piece(r *rand.Rand, l []known, v []string) known {
	c := l[r.Intn(len(l))]
	switch {
	case r.Intn(3) == 0:
		c = known{s: v[r.Intn(len(v))]}
	case r.Intn(2) == 0:
		c.l = some(r)
		c.s = string(wire.Command(c.l...))
	}
	if len(c.s) > 500 && r.Intn(8) > 0 {
		return known{"\n", nil}
	}
	return c
}

// P6.3: in whichever pieces bytes are fed, and whenever they are asked for.
func TestBytesInPieces(t *testing.T) {
	r := rand.New(rand.NewSource(17))
	l, v, ends := commands(), voids(), append(breaks(), "", "SET k", "*2\r\n", "*1\r\n$2\r\na")
	for i := range 600 {
		var all string
		var want, got []string
		for range r.Intn(12) {
			c := piece(r, l, v)
			all += c.s
			if len(c.l) > 0 {
				want = append(want, Quote(c.l...))
			}
		}
		last := ends[r.Intn(len(ends))]
		_, _, fail := Parse([]byte(last))
		all += last
		most := []int{1, 2, 7, 100, 5000}[i%5]
		if len(all) > 3000 {
			most = max(most, 100)
		}
		d, failed := New(), api.OK
		ask := func() bool {
			words, ok, e := d.Next()
			if ok {
				got = append(got, Quote(words...))
			}
			if ok != (len(words) > 0) || e != api.OK && (ok || d.Left() != 0) {
				t.Fatal(words, ok, e, d.Left())
			}
			failed = e
			return ok
		}
		for fed := 0; fed < len(all); {
			n := min(r.Intn(most+1), len(all)-fed)
			d.Feed([]byte(all[fed : fed+n]))
			fed += n
			for range r.Intn(3) {
				ask()
			}
		}
		for ask() {
		}
		if !slices.Equal(got, want) || failed != fail || fail == api.OK && d.Left() != len(last) {
			t.Fatalf("%d commands, not %d; %d, not %d; %d left", len(got), len(want), failed, fail, d.Left())
		}
	}
}

// P6.3: a byte at a time, asked at each.
func TestBytesOneByOne(t *testing.T) {
	for _, c := range commands() {
		if len(c.s) > 5000 {
			continue
		}
		l := New()
		for i := range len(c.s) {
			l.Feed([]byte{c.s[i]})
			if i+1 < len(c.s) {
				next(t, l, nil, api.OK, i+1)
			}
		}
		next(t, l, c.l, api.OK, 0)
	}
}

// P6.3: Lines are apart from one another.
func TestLinesAreApart(t *testing.T) {
	a, b := New(), New()
	a.Feed([]byte("*1\r\n$2\r\na"))
	b.Feed([]byte("'\n"))
	next(t, b, nil, api.ErrLine, 0)
	next(t, a, nil, api.OK, 9)
	a.Feed([]byte("b\r\n"))
	next(t, a, []string{"ab"}, api.OK, 0)
	next(t, New(), nil, api.OK, 0)
}

// What is handed in isn't changed, spare room included, and not kept.
func TestWhatIsHandedInIsNotKept(t *testing.T) {
	for _, s := range []string{"*2\r\n$2\r\nab\r\n$1\r\nc\r\n", "ab \"c\"\r\n", "\n 'ab'\tc\n"} {
		room := []byte(s + "spare")
		b := room[:len(s)]
		words, used, _ := Parse(b)
		for used > 0 && len(words) == 0 {
			words, used, _ = Parse(b[used:])
		}
		l := New()
		l.Feed(b[:5])
		l.Next()
		if string(room) != s+"spare" {
			t.Errorf("changed: %q", room)
		}
		clear(b[:5])
		l.Feed(b[5:])
		clear(room)
		next(t, l, []string{"ab", "c"}, api.OK, 0)
		if !slices.Equal(words, []string{"ab", "c"}) {
			t.Errorf("kept: %q", words)
		}
	}
	words := []string{"a", "*", "b c", "spare"}
	Quote(words[:3]...)
	if !slices.Equal(words, []string{"a", "*", "b c", "spare"}) {
		t.Errorf("changed: %q", words)
	}
}

// An answer is new memory, spare room too.
func TestAnswersAreNew(t *testing.T) {
	for _, s := range []string{"*3\r\n$1\r\na\r\n$1\r\nb\r\n$1\r\nc\r\n", "a b c\n"} {
		l := New()
		l.Feed([]byte(s + s))
		a, _, _ := l.Next()
		b, _, _ := l.Next()
		c, _, _ := Parse([]byte(s))
		d, _ := Words("a b c")
		e, _ := Words("a b c")
		all := [][]string{a, b, c, d, e}
		seen := map[*string]bool{}
		for _, m := range all {
			if !slices.Equal(m, []string{"a", "b", "c"}) {
				t.Errorf("%q", m)
			}
			m = m[:cap(m)]
			for i := range m {
				if seen[&m[i]] {
					t.Error("shared")
				}
				seen[&m[i]] = true
			}
		}
	}
}

// P1: a panic at any of these arguments, or a call that doesn't end, fails the test.
func TestCallsEndAtAllArguments(t *testing.T) {
	r := rand.New(rand.NewSource(19))
	for _, s := range []string{"*", "*1\r\n", "*64\r\n", "*0\r\n", "$", "$0\r\n\r\n", "*1\r\n$0\r\n\r\n", "\r\n", "\n", "\r", "\x00", "\xff", " ", "\t", "\"", "'", "\\", "\\x", "'\\'", "a ", "'' ", "*9"} {
		s = times(s, 100000)
		hold(t, s)
		hold(t, s+"\n")
		holdWords(t, s)
		Quote(s, s)
		l := New()
		l.Feed([]byte(s))
		for range 2000 {
			l.Next()
		}
	}
	for range 20000 {
		b := make([]byte, r.Intn(60))
		r.Read(b)
		hold(t, string(b))
		holdWords(t, string(b))
	}
}

// P1: reading on goes on as fast, however much waits behind, and however many
// have no words.
func TestManyCommandsAtOnce(t *testing.T) {
	l := New()
	const n = 300000
	l.Feed(bytes.Repeat([]byte("\nGET\n*0\r\n"), n))
	for i := range n {
		if words, ok, e := l.Next(); len(words) != 1 || words[0] != "GET" || !ok || e != api.OK || l.Left() != 9*(n-1-i)+4 {
			t.Fatal(i, words, ok, e, l.Left())
		}
	}
	next(t, l, nil, api.OK, 0)
	l.Feed(bytes.Repeat([]byte("\n"), 5000000))
	next(t, l, nil, api.OK, 0)
}

// P1: bytes of the greatest command that come one by one.
func TestTheGreatestCommandByteByByte(t *testing.T) {
	word := times("\r", api.MaxText)
	want := slices.Repeat([]string{word}, api.MaxArgs)
	s := wire.Command(want...)
	l := New()
	for i := range len(s) - 1 {
		l.Feed(s[i : i+1])
		if words, ok, e := l.Next(); len(words) != 0 || ok || e != api.OK || l.Left() != i+1 {
			t.Fatal(i, len(words), ok, e, l.Left())
		}
	}
	l.Feed(s[len(s)-1:])
	next(t, l, want, api.OK, 0)
}

// P2: the same arguments have the same answers, whatever was asked between.
func TestAnswersDependOnArgumentsAlone(t *testing.T) {
	l := append(append(breaks(), halves()...), voids()...)
	for _, c := range commands() {
		l = append(l, c.s, c.s[:len(c.s)-1])
	}
	type answer struct {
		l    []string
		used int
		e    api.Errno
	}
	first := make([]answer, len(l))
	for i, s := range l {
		first[i].l, first[i].used, first[i].e = Parse([]byte(s))
	}
	for i := len(l) - 1; i >= 0; i-- {
		expect(t, l[i], first[i].l, first[i].used, first[i].e)
	}
}
