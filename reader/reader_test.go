package reader

import (
	"bytes"
	"math"
	"math/rand"
	"regexp"
	"slices"
	"strconv"
	"strings"
	"testing"

	"nearhand/api"
	"nearhand/value"
	"nearhand/wire"
)

// The calls' signatures are part of what is promised.
var (
	_ func() *Reader                             = New
	_ func(*Reader, []byte)                      = (*Reader).Feed
	_ func(*Reader) (api.Value, bool, api.Errno) = (*Reader).Next
	_ func(*Reader) int                          = (*Reader).Left
	_ func([]byte) (api.Value, int, api.Errno)   = Parse
)

var (
	minus0 = math.Copysign(0, -1)
	inf    = math.Inf(1)
	nan    = math.NaN()
	times  = strings.Repeat
)

// of is a value of a Kind with that List.
func of(kind int, l ...api.Value) api.Value { return api.Value{Kind: kind, List: l} }

// text is a value of a Kind with that Text.
func text(kind int, s string) api.Value { return api.Value{Kind: kind, Text: s} }

// point is a Real.
func point(f float64) api.Value { return api.Value{Kind: api.Real, Real: f} }

// flag is a Bool.
func flag(b bool) api.Value { return api.Value{Kind: api.Bool, Flag: b} }

// ones are so many Wholes of 1.
func ones(n int) []api.Value { return slices.Repeat([]api.Value{value.Int(1)}, n) }

// nested is so many Lists of that Kind around a value, each with those ahead of it.
func nested(n, kind int, v api.Value, ahead ...api.Value) api.Value {
	for range n {
		v = of(kind, append(slices.Clone(ahead), v)...)
	}
	return v
}

// brief is the beginning of what is told of a fault.
func brief(s string) string { return s[:min(len(s), 80)] }

// known is a frame and its value.
type known struct {
	s string
	v api.Value
}

// lines are frames of a line alone.
func lines() []known {
	most, digits := times("x", api.MaxText), times("9", api.MaxText)
	return []known{
		{"+OK\r\n", value.Ok()}, {"+\r\n", text(api.Simple, "")}, {"+a b\t\x00\xff+:$\r\n", text(api.Simple, "a b\t\x00\xff+:$")}, {"+" + most + "\r\n", text(api.Simple, most)},
		{"-ERR x\r\n", value.Fail("ERR x")}, {"-\r\n", value.Fail("")}, {"--1\r\n", value.Fail("-1")}, {"-" + most + "\r\n", value.Fail(most)},
		{"(0\r\n", text(api.Big, "0")}, {"(-0\r\n", text(api.Big, "-0")}, {"(-007\r\n", text(api.Big, "-007")}, {"(9223372036854775808\r\n", text(api.Big, "9223372036854775808")}, {"(" + digits + "\r\n", text(api.Big, digits)},
		{":0\r\n", value.Int(0)}, {":-1\r\n", value.Int(-1)}, {":10\r\n", value.Int(10)}, {":9223372036854775807\r\n", value.Int(math.MaxInt64)}, {":-9223372036854775808\r\n", value.Int(math.MinInt64)},
		{",0\r\n", point(0)}, {",-0\r\n", point(minus0)}, {",1.5\r\n", point(1.5)}, {",-01.50e-1\r\n", point(-0.15)}, {",1e3\r\n", point(1000)}, {",1e+21\r\n", point(1e21)}, {",inf\r\n", point(inf)}, {",-inf\r\n", point(-inf)}, {",nan\r\n", point(nan)}, {"," + times("0", 63) + "7\r\n", point(7)},
		{"#t\r\n", flag(true)}, {"#f\r\n", flag(false)},
		{"_\r\n", value.Nil()}, {"$-1\r\n", value.Nil()}, {"*-1\r\n", value.Nil()},
	}
}

// texts are frames of a length and a text.
func texts() []known {
	most := times("x", api.MaxText)
	return []known{
		{"$0\r\n\r\n", value.Text("")}, {"$2\r\nab\r\n", value.Text("ab")}, {"$2\r\n\r\n\r\n", value.Text("\r\n")}, {"$1\r\n\r\r\n", value.Text("\r")}, {"$1\r\n\n\r\n", value.Text("\n")},
		{"$5\r\n$1\r\na\r\n", value.Text("$1\r\na")}, {"$3\r\n\x00\xff\n\r\n", value.Text("\x00\xff\n")}, {"$4096\r\n" + most + "\r\n", value.Text(most)}, {"$4096\r\n" + times("\r", 4096) + "\r\n", value.Text(times("\r", 4096))},
		{"!0\r\n\r\n", text(api.Blob, "")}, {"!3\r\na\r\n\r\n", text(api.Blob, "a\r\n")}, {"!4096\r\n" + most + "\r\n", text(api.Blob, most)},
		{"=4\r\ntxt:\r\n", text(api.Verbatim, "txt:")}, {"=4\r\n::::\r\n", text(api.Verbatim, "::::")}, {"=7\r\nmkd:\r\n#\r\n", text(api.Verbatim, "mkd:\r\n#")}, {"=4096\r\n\r\n\x00:" + most[4:] + "\r\n", text(api.Verbatim, "\r\n\x00:"+most[4:])},
	}
}

// lists are frames with a List, up to the greatest and the deepest.
func lists() []known {
	return []known{
		{"*0\r\n", value.List()}, {"~0\r\n", of(api.Set)}, {"%0\r\n", of(api.Map)},
		{"*2\r\n:1\r\n$1\r\na\r\n", value.List(value.Int(1), value.Text("a"))}, {"~2\r\n:1\r\n:1\r\n", of(api.Set, ones(2)...)},
		{"%1\r\n+a\r\n_\r\n", of(api.Map, text(api.Simple, "a"), value.Nil())}, {"%2\r\n:1\r\n:2\r\n:3\r\n:4\r\n", of(api.Map, value.Int(1), value.Int(2), value.Int(3), value.Int(4))},
		{">1\r\n+x\r\n", of(api.Push, text(api.Simple, "x"))}, {">1\r\n*-1\r\n", of(api.Push, value.Nil())}, {">2\r\n$10\r\ninvalidate\r\n*1\r\n$1\r\nk\r\n", of(api.Push, value.Text("invalidate"), value.List(value.Text("k")))},
		{"*3\r\n$-1\r\n*-1\r\n_\r\n", value.List(value.Nil(), value.Nil(), value.Nil())}, {"*3\r\n*0\r\n~0\r\n%0\r\n", value.List(value.List(), of(api.Set), of(api.Map))},
		{"*2\r\n*1\r\n#t\r\n%1\r\n,1.5\r\n~1\r\n(1\r\n", value.List(value.List(flag(true)), of(api.Map, point(1.5), of(api.Set, text(api.Big, "1"))))},
		{times("*1\r\n", 7) + "*0\r\n", nested(7, api.Array, value.List())}, {times("*1\r\n", 8) + ":1\r\n", nested(8, api.Array, value.Int(1))}, {times("~1\r\n", 8) + "*-1\r\n", nested(8, api.Set, value.Nil())}, {times("%1\r\n_\r\n", 8) + "_\r\n", nested(8, api.Map, value.Nil(), value.Nil())}, {">1\r\n" + times("*1\r\n", 7) + "_\r\n", of(api.Push, nested(7, api.Array, value.Nil()))},
		{"*999\r\n" + times(":1\r\n", 999), of(api.Array, ones(999)...)}, {">999\r\n" + times(":1\r\n", 999), of(api.Push, ones(999)...)}, {"~999\r\n" + times("*0\r\n", 999), of(api.Set, slices.Repeat([]api.Value{value.List()}, 999)...)}, {"%499\r\n" + times(":1\r\n", 998), of(api.Map, ones(998)...)},
		{"*2\r\n:1\r\n*997\r\n" + times(":1\r\n", 997), value.List(value.Int(1), of(api.Array, ones(997)...))}, {"*2\r\n~997\r\n" + times(":1\r\n", 997) + ":1\r\n", value.List(of(api.Set, ones(997)...), value.Int(1))},
		{"*3\r\n:1\r\n%498\r\n" + times(":1\r\n", 996) + ":1\r\n", value.List(value.Int(1), of(api.Map, ones(996)...), value.Int(1))}, {"%250\r\n" + times(":1\r\n", 499) + "*499\r\n" + times(":1\r\n", 499), of(api.Map, append(ones(499), of(api.Array, ones(499)...))...)},
	}
}

// frames are all that are known.
func frames() []known { return slices.Concat(lines(), texts(), lists()) }

// breaks are bytes that can't begin a frame, though all but the last one can.
func breaks() []string {
	a := times("a", 5000)
	l := []string{
		"+\n", "+a\n", "+a\rb", "+\r\r", "+a\r\x00", "-a b\n", "_\n", "_\ra", "$1\n", "$\r1", "*1\n", "*1\r*",
		"+" + a[:4200], "+" + a[:4199] + "\r", "$" + a[:4200], "*" + times("1", 4200), "_" + times("\x00", 4199) + "\r",
		"+" + a[:4097] + "\r\n", "+" + a[:4198] + "\r\n", "-" + a[:4097] + "\r\n", "(" + times("1", 4097) + "\r\n",
		"*1\r\n+" + a[:4200], "%1\r\n:1\r\n+" + a[:4097] + "\r\n", "*2\r\n:1\r\n-\n",
	}
	ended := []string{
		"(", "(-", "(a", "(1a", "(+1", "(--1", "(1-", "(1.0", "( 1", "(1 ", "(\x00",
		":", ":-", ":01", ":-0", ":+1", ":1.5", ": 1", ":1 ", ":a", ":9223372036854775808", ":-9223372036854775809", ":inf",
		",", ",1.", ",.5", ",+1", ",Inf", ",+inf", ",NaN", ",1E3", ",1e999", ",0x1", ", 1", ",1 ", ",1_0", "," + times("0", 65),
		"#", "#T", "#F", "#tt", "#true", "#1", "#t ", "# t", "_ ", "_-1", "_a",
		"$", "$-", "$-2", "$-0", "$01", "$-01", "$+1", "$+0", "$1.0", "$ 1", "$1 ", "$a", "$-1 ", "$4097", "$9223372036854775807", "$9223372036854775808", "$18446744073709551617", "$-9223372036854775808", "$4294967296",
		"!", "!-1", "!4097", "!00", "!a", "=", "=-1", "=4097", "=04",
		"*", "*-", "*-2", "*-0", "*01", "*+1", "*1.0", "*a", "*-1 ", "*1000", "*1001", "*9223372036854775807", "*9223372036854775808", "*18446744073709551616", "*4294967297", "*-9223372036854775808",
		"~", "~-1", "~1000", "~00", "%", "%-1", "%500", "%01", "%4611686018427387904", "%4611686018427387905", "%9223372036854775807", "%-9223372036854775808", "%-4611686018427387904",
		">", ">-1", ">0", ">1000", ">01", "*1\r\n!-1", "%1\r\n$-1\r\n=-1",
		"*1\r\n>1", "*1\r\n>0", "~2\r\n:1\r\n>1", "%1\r\n+a\r\n>1", ">1\r\n>1", ">2\r\n*1\r\n>2", "*3\r\n*0\r\n*0\r\n>1",
		times("*1\r\n", 8) + "*0", times("*1\r\n", 8) + "*1", times("~1\r\n", 8) + "%0", times("%1\r\n_\r\n", 8) + "~1", ">1\r\n" + times("*1\r\n", 7) + "*0", "*2\r\n" + times("*1\r\n", 7) + ":1\r\n" + times("*1\r\n", 7) + "*0",
		"*2\r\n*998", "*2\r\n:1\r\n*998", "*500\r\n*500", "*334\r\n*333\r\n~333", "*2\r\n:1\r\n%499", "%499\r\n%1", "*999\r\n*1", ">999\r\n~1", "*999\r\n" + times(":1\r\n", 998) + "*1", "*998\r\n" + times("*0\r\n", 996) + "%1", "*2\r\n*996\r\n" + times(":1\r\n", 996) + "*2",
	}
	for _, s := range ended {
		l = append(l, s+"\r\n")
	}
	for _, s := range []string{"$0\r\n", "$2\r\nab", "$2\r\n\r\n", "!1\r\na", "=4\r\ntxt:", "$4096\r\n" + a[:4096], "*2\r\n:1\r\n$1\r\na"} {
		l = append(l, s+"x", s+"\n", s+"\x00", s+"\rx", s+"\r\r")
	}
	for _, s := range []string{"=0\r\n", "=1\r\n:", "=3\r\ntxt", "=3\r\n:::", "=4\r\ntxt;", "=5\r\n:::a:", "=4096\r\n" + a[:4096], "*1\r\n=3\r\na:b"} {
		l = append(l, s+"\r\n")
	}
	for b := range 256 {
		if c := string([]byte{byte(b)}); !strings.Contains("+-:$*_,#(!=%~>", c) {
			l = append(l, c, "*1\r\n"+c, "*2\r\n:1\r\n"+c, "%1\r\n_\r\n"+c, ">1\r\n"+c)
		}
	}
	return l
}

// expect asks Parse, and tells what isn't as it should be.
func expect(t *testing.T, s string, v api.Value, used int, e api.Errno) {
	t.Helper()
	w, n, f := Parse([]byte(s))
	if !value.Same(w, v) || n != used || f != e {
		t.Errorf("Parse of %d bytes, %q: %d of Kind %d, %d, %d, not %d, %d", len(s), brief(s), value.Count(w), w.Kind, n, f, used, e)
	}
}

func TestErrorsHaveTheirNumbers(t *testing.T) {
	if api.ErrFrame != 51 || api.MaxText != 4096 || api.MaxItems != 1000 || api.MaxDepth != 8 {
		t.Error(api.ErrFrame, api.MaxText, api.MaxItems, api.MaxDepth)
	}
}

// P5.1: with nothing behind a frame, and with anything.
func TestParseOfKnownFrames(t *testing.T) {
	for _, c := range frames() {
		if value.Check(c.v) != api.OK {
			t.Fatalf("%q", brief(c.s))
		}
		for _, behind := range []string{"", "\r", "\n", "x", "+", ":1\r\n", "\r\n", c.s, times("\xff", 5000)} {
			expect(t, c.s+behind, c.v, len(c.s), api.OK)
		}
	}
}

// P5.1: all beginnings of what can be end too early.
func TestParseOfFramesThatEndTooEarly(t *testing.T) {
	for _, c := range frames() {
		for n := range len(c.s) {
			// Within long rows of the same all places are alike.
			if n < 60 || n > len(c.s)-60 || n%251 == 0 {
				expect(t, c.s[:n], api.Value{}, 0, api.OK)
			}
		}
	}
	a := times("a", 5000)
	for _, s := range []string{"+" + a[:4199], "+" + a[:4198] + "\r", "+" + a[:4097] + "\r", "$" + a[:4199], "_" + a[:4199], ":" + a[:4198] + "\r", "*1\r\n-" + a[:4199], "#x\r", "(a", "=3\r\nabc\r", "=4\r\nabcd\r", "*1\r\n>1\r", "*1000\r", "%500\r", ">0\r", "$4097\r", "%1\r\n:1\r\n", times("*1\r\n", 8) + "*0\r", "*500\r\n*499\r\n", "*334\r\n*333\r\n~332\r\n", "%499\r\n*1\r\n"} {
		expect(t, s, api.Value{}, 0, api.OK)
	}
}

// P5.1: the first byte that can't be so is told at once, whatever is behind it.
func TestParseOfBytesThatAreNoFrame(t *testing.T) {
	for _, s := range breaks() {
		expect(t, s[:len(s)-1], api.Value{}, 0, api.OK)
		for _, behind := range []string{"", "\r", "\n", "\r\n", "x", ":1\r\n", times("\r\n", 3000), times("a", 5000) + "\r\n"} {
			expect(t, s+behind, api.Value{}, 0, api.ErrFrame)
		}
	}
}

// P5.1: a line's end is looked for among 4200 bytes, whether its text may be so long or not.
func TestParseOfLongLines(t *testing.T) {
	for _, mark := range []string{"+", "-", "(", ":", ",", "#", "_", "$", "!", "=", "*", "~", ">", "%"} {
		for n := 4090; n <= 4210; n++ {
			line := mark + times("0", n)
			whole, fail, ended := api.Value{}, api.OK, api.ErrFrame
			if n >= 4200 {
				fail = api.ErrFrame
			}
			used := 0
			if n <= api.MaxText && (mark == "+" || mark == "-" || mark == "(") {
				whole, used, ended = text(map[string]int{"+": api.Simple, "-": api.Error, "(": api.Big}[mark], line[1:]), n+3, api.OK
			}
			expect(t, line, api.Value{}, 0, fail)
			if n == 4199 {
				fail = api.ErrFrame
			}
			expect(t, line+"\r", api.Value{}, 0, fail)
			expect(t, line+"\r\n", whole, used, ended)
		}
	}
}

// P5.1: how many bytes a text may have, to the byte.
func TestParseOfAllLengths(t *testing.T) {
	body := times("ab:", 2000)[:4100]
	for n := 0; n <= 4100; n++ {
		if n > 300 && n < 4090 && n%97 != 0 {
			continue
		}
		s := strconv.Itoa(n) + "\r\n" + body[:n] + "\r\n"
		for mark, kind := range map[string]int{"$": api.Bulk, "!": api.Blob} {
			if n <= 4096 {
				expect(t, mark+s+":1\r\n", text(kind, body[:n]), 1+len(s), api.OK)
			} else {
				expect(t, mark+s, api.Value{}, 0, api.ErrFrame)
			}
		}
	}
}

// told is a frame read in another way: by patterns, with open Lists in a row.
func told(s string) (api.Value, int, api.Errno) {
	type open struct {
		v    api.Value
		left int
	}
	var row []open
	count, at := 1, 0
	for at < len(s) {
		v, more, size, state := toldLine(s[at:])
		if state == waits {
			return api.Value{}, 0, api.OK
		}
		count, at = count+more, at+size
		if state == wrong || isOpen[v.Kind] && (count > 1000 || len(row) == 8 || v.Kind == api.Push && (len(row) > 0 || more == 0)) {
			return api.Value{}, 0, api.ErrFrame
		}
		row = append(row, open{v, more})
		for row[len(row)-1].left == 0 {
			last := row[len(row)-1].v
			if row = row[:len(row)-1]; len(row) == 0 {
				return last, at, api.OK
			}
			row[len(row)-1].v.List = append(row[len(row)-1].v.List, last)
			row[len(row)-1].left--
		}
	}
	return api.Value{}, 0, api.OK
}

// What may be found of bytes: what they ask for is there, they are too few, or
// they can't be so.
const (
	there = iota
	waits
	wrong
)

const marks = "+-:$*_,#(!=%~>"

var (
	isOpen   = map[int]bool{api.Array: true, api.Set: true, api.Map: true, api.Push: true}
	lineForm = regexp.MustCompile(`^[^\r\n]*\r\n`)
	partForm = regexp.MustCompile(`^[^\r\n]*\r?$`)
	sizeForm = regexp.MustCompile(`^(0|[1-9][0-9]*)$`)
	textForm = regexp.MustCompile(`^[^\r\n]*$`)
	// lineForms are what a line may be, by kinds.
	lineForms = map[int]*regexp.Regexp{
		api.Simple: textForm, api.Error: textForm, api.Big: regexp.MustCompile(`^-?[0-9]+$`),
		api.Whole: regexp.MustCompile(`^(0|-?[1-9][0-9]*)$`), api.Real: regexp.MustCompile(`^(-?inf|nan|-?[0-9]+(\.[0-9]+)?(e[+-]?[0-9]+)?)$`),
		api.Bool: regexp.MustCompile(`^[tf]$`), api.Null: regexp.MustCompile(`^$`),
		api.Bulk: sizeForm, api.Blob: sizeForm, api.Verbatim: sizeForm, api.Array: sizeForm, api.Set: sizeForm, api.Map: sizeForm, api.Push: sizeForm,
	}
)

// toldLine is a frame's value, but for its List: how many follow there, and
// how many bytes were gone through.
func toldLine(s string) (v api.Value, more, size, state int) {
	v.Kind = 1 + strings.IndexByte(marks, s[0])
	if v.Kind == 0 {
		return v, 0, 0, wrong
	}
	line := lineForm.FindString(s[1:])
	if line == "" || len(line) > 4200 {
		if len(s) <= 4200 && partForm.MatchString(s[1:]) {
			return v, 0, 0, waits
		}
		return v, 0, 0, wrong
	}
	size = 1 + len(line)
	line = line[:len(line)-2]
	if line == "-1" && (s[0] == '$' || s[0] == '*') {
		return value.Nil(), 0, size, there
	}
	if !lineForms[v.Kind].MatchString(line) {
		return v, 0, 0, wrong
	}
	n, err := strconv.Atoi(line)
	switch v.Kind {
	case api.Simple, api.Error, api.Big:
		v.Text, err = line, nil
	case api.Whole:
		v.Int = int64(n)
	case api.Real:
		v.Real, err = strconv.ParseFloat(line, 64)
	case api.Bool, api.Null:
		v.Flag, err = line == "t", nil
	case api.Map:
		more = 2 * min(n, 1000)
	case api.Array, api.Set, api.Push:
		more = min(n, 1000)
	default:
		v.Text, state = toldText(s[size:], n)
		size += n + 2
		if state == there && v.Kind == api.Verbatim && (n < 4 || v.Text[3] != ':') {
			state = wrong
		}
	}
	if err != nil || len(v.Text) > 4096 || v.Kind == api.Real && len(line) > 64 {
		state = wrong
	}
	return v, more, size, state
}

// toldText is a text of so many bytes, with 13 and 10 behind it.
func toldText(s string, n int) (string, int) {
	switch {
	case n > 4096:
		return "", wrong
	case len(s) < n || s[n:] == "" || s[n:] == "\r":
		return "", waits
	case s[n] != '\r' || s[n+1] != '\n':
		return "", wrong
	}
	return s[:n], there
}

// hold asks both, and holds the answers against each other.
func hold(t *testing.T, s string) {
	t.Helper()
	v, used, e := told(s)
	expect(t, s, v, used, e)
	if e == api.OK && used > 0 && value.Check(v) != api.OK {
		t.Errorf("%q isn't RIGHT", brief(s))
	}
}

// P5.1: what is known holds in the other way, too.
func TestTheOtherWayTellsWhatIsKnown(t *testing.T) {
	for _, c := range frames() {
		if v, used, e := told(c.s); !value.Same(v, c.v) || used != len(c.s) || e != api.OK {
			t.Errorf("%q: %d, %d", brief(c.s), used, e)
		}
	}
	for _, s := range breaks() {
		if _, used, e := told(s); used != 0 || e != api.ErrFrame {
			t.Errorf("%q: %d, %d", brief(s), used, e)
		}
		if _, used, e := told(s[:len(s)-1]); used != 0 || e != api.OK {
			t.Errorf("%q: %d, %d", brief(s[:len(s)-1]), used, e)
		}
	}
}

// holdAll holds a beginning, and all rows of at most so many pieces behind it.
func holdAll(t *testing.T, s string, n int, pieces []string) {
	t.Helper()
	hold(t, s)
	// Behind what can't be so nothing changes any more.
	if _, _, e := told(s); n == 0 || e != api.OK {
		return
	}
	for _, p := range pieces {
		holdAll(t, s+p, n-1, pieces)
	}
}

// P5.1: of all short rows of such pieces.
func TestParseOfAllShortRows(t *testing.T) {
	pieces := []string{"+", "-", ":", "$", "*", "_", ",", "#", "(", "!", "=", "%", "~", ">", "\r", "\n", "\r\n", "0", "1", "t", "x"}
	few := []string{"+", "$", "*", ">", "\r\n", "1", "0"}
	holdAll(t, "", 4, pieces)
	holdAll(t, "", 6, few)
	for _, s := range []string{"*2\r\n", "~1\r\n", "%1\r\n", ">2\r\n", "$2\r\n", "!1\r\n", "=4\r\nt:", "=4\r\ntxt", "*1\r\n>"} {
		holdAll(t, s, 3, pieces)
	}
}

// some is any right value of at most so many and so deep.
func some(r *rand.Rand, most, deep int) (v api.Value) {
	kinds := []int{api.Simple, api.Error, api.Whole, api.Bulk, api.Null, api.Real, api.Bool, api.Big, api.Blob, api.Verbatim, api.Array, api.Map, api.Set}
	if deep == 0 || most < 2 {
		kinds = kinds[:10]
	}
	v.Kind = kinds[r.Intn(len(kinds))]
	switch v.Kind {
	case api.Simple, api.Error:
		v.Text = []string{"", "OK", "ERR a", times("z", r.Intn(4097))}[r.Intn(4)]
	case api.Bulk, api.Blob:
		b := make([]byte, r.Intn(40))
		r.Read(b)
		v.Text = []string{"", "\r\n", "$1\r\n", string(b)}[r.Intn(4)]
	case api.Big:
		v.Text = []string{"0", "-1", "10", "007"}[r.Intn(4)]
	case api.Verbatim:
		v.Text = "txt:" + times("\r\n", r.Intn(9))
	case api.Whole:
		v.Int = r.Int63() >> r.Intn(63) * int64(1-2*r.Intn(2))
	case api.Real:
		v.Real = []float64{0, minus0, 1.5, nan, inf, -inf, 0.1, 1e-300, math.Float64frombits(r.Uint64())}[r.Intn(9)]
	case api.Bool:
		v.Flag = r.Intn(2) == 1
	case api.Array, api.Set, api.Map:
		for n := r.Intn(5); len(v.List) < n || v.Kind == api.Map && len(v.List)%2 == 1; {
			v.List = append(v.List, some(r, most/6, deep-1))
		}
	}
	return v
}

// P5.1: what layer 4 writes is read as what it was, in both protocols.
func TestParseOfWrittenValues(t *testing.T) {
	r := rand.New(rand.NewSource(7))
	for range 3000 {
		v := some(r, 900, 8)
		if r.Intn(5) == 0 {
			v = of(api.Push, v)
		}
		if value.Check(v) != api.OK {
			continue
		}
		b := string(wire.Bytes(v, 3))
		expect(t, b, v, len(b), api.OK)
		expect(t, b[:r.Intn(len(b))], api.Value{}, 0, api.OK)
		expect(t, b+b, v, len(b), api.OK)
		b = string(wire.Bytes(v, 2))
		if d := wire.Down(v); value.Check(d) == api.OK {
			expect(t, b, d, len(b), api.OK)
		}
		hold(t, string(wire.Command("SET", b[:min(len(b), 4000)], "")))
	}
}

// spoilt is a row of bytes with some of them changed.
func spoilt(r *rand.Rand, s string) string {
	b := []byte(s)
	const some = "+-:$*_,#(!=%~>\r\n0123456789tfe.x\x00\xff"
	for range 1 + r.Intn(3) {
		i := r.Intn(len(b) + 1)
		switch r.Intn(4) {
		case 0:
			b = slices.Insert(b, i, some[r.Intn(len(some))])
		case 1:
			b = b[:i]
		default:
			if i < len(b) {
				b[i] = some[r.Intn(len(some))]
			}
		}
	}
	return string(b)
}

// P5.1: of many frames that are nearly right.
func TestParseOfSpoiltFrames(t *testing.T) {
	r := rand.New(rand.NewSource(11))
	for range 20000 {
		v := some(r, 200, 8)
		if r.Intn(4) == 0 {
			v = of(api.Push, v, v)
		}
		hold(t, spoilt(r, string(wire.Bytes(v, 2+r.Intn(2)))))
	}
	l := frames()
	for range 3000 {
		hold(t, spoilt(r, l[r.Intn(len(l))].s))
	}
}

// P5.1: of Lists in Lists of many numbers, about as many and as deep as may be.
func TestParseOfManyAndDeep(t *testing.T) {
	r := rand.New(rand.NewSource(13))
	for range 3000 {
		s := ""
		for range 1 + r.Intn(12) {
			n := []int{0, 1, 1, 2, 3, 10, 100, 330, 497, 499, 990, 998, 999, r.Intn(1001)}[r.Intn(14)]
			s += "*~%*~%*>"[r.Intn(8):][:1] + strconv.Itoa(n) + "\r\n" + times("_\r\n", r.Intn(3))
		}
		hold(t, s)
		hold(t, s+times(":1\r\n", r.Intn(1002)))
		hold(t, s+times("*0\r\n", r.Intn(1002)))
	}
}

// next asks a Reader, and tells what isn't as it should be.
func next(t *testing.T, r *Reader, v api.Value, ok bool, e api.Errno, left int) {
	t.Helper()
	if w, is, f := r.Next(); !value.Same(w, v) || is != ok || f != e || r.Left() != left {
		t.Errorf("Next: Kind %d, %t, %d, not %t, %d; %d bytes left, not %d", w.Kind, is, f, ok, e, r.Left(), left)
	}
}

// P5.2
func TestNewHasNoBytes(t *testing.T) {
	r := New()
	if r.Left() != 0 {
		t.Error(r.Left())
	}
	next(t, r, api.Value{}, false, api.OK, 0)
	r.Feed(nil)
	r.Feed([]byte{})
	next(t, r, api.Value{}, false, api.OK, 0)
	if New() == New() {
		t.Error("one Reader for two")
	}
}

// P5.2: half a frame, and the other half later.
func TestFramesThatComeInHalves(t *testing.T) {
	for _, c := range frames() {
		for _, n := range []int{1, 2, min(3, len(c.s)-1), len(c.s) / 2, len(c.s) - 2, len(c.s) - 1} {
			r := New()
			r.Feed([]byte(c.s[:n]))
			if r.Left() != n {
				t.Error(r.Left(), n)
			}
			next(t, r, api.Value{}, false, api.OK, n)
			next(t, r, api.Value{}, false, api.OK, n)
			r.Feed([]byte(c.s[n:] + ":5"))
			if r.Left() != len(c.s)+2 {
				t.Error(r.Left(), len(c.s)+2)
			}
			next(t, r, c.v, true, api.OK, 2)
			next(t, r, api.Value{}, false, api.OK, 2)
			r.Feed([]byte("\r\n"))
			next(t, r, value.Int(5), true, api.OK, 0)
			next(t, r, api.Value{}, false, api.OK, 0)
		}
	}
}

// P5.2: at an error all bytes are gone, and it is the answer from then on.
func TestAReaderThatFailed(t *testing.T) {
	for _, s := range breaks() {
		r := New()
		r.Feed([]byte("+a\r\n" + s[:len(s)-1]))
		next(t, r, text(api.Simple, "a"), true, api.OK, len(s)-1)
		next(t, r, api.Value{}, false, api.OK, len(s)-1)
		r.Feed([]byte(s[len(s)-1:] + ":1\r\n"))
		// It hasn't failed before it is asked.
		if r.Left() != len(s)+4 {
			t.Error(r.Left(), len(s)+4)
		}
		next(t, r, api.Value{}, false, api.ErrFrame, 0)
		next(t, r, api.Value{}, false, api.ErrFrame, 0)
		for _, more := range []string{":1\r\n", "", "+", s} {
			r.Feed([]byte(more))
			if r.Left() != 0 {
				t.Error(r.Left())
			}
			next(t, r, api.Value{}, false, api.ErrFrame, 0)
		}
	}
}

// P5.2: in whichever pieces bytes are fed, and whenever it is asked.
func TestBytesInPieces(t *testing.T) {
	rnd := rand.New(rand.NewSource(17))
	l, ends := frames(), append(breaks(), "", "$3\r\nab", "*2\r\n")
	for i := range 600 {
		var all string
		var want []api.Value
		for range rnd.Intn(12) {
			c := l[rnd.Intn(len(l))]
			if len(c.s) > 500 && rnd.Intn(8) > 0 {
				continue
			}
			all, want = all+c.s, append(want, c.v)
		}
		last := ends[rnd.Intn(len(ends))]
		if len(last) > 500 {
			last = ""
		}
		_, _, fail := Parse([]byte(last))
		all += last
		most := []int{1, 2, 7, 100, 5000}[i%5]
		if len(all) > 3000 {
			most = max(most, 100)
		}
		r, got, fed, used := New(), []api.Value(nil), 0, 0
		failed := false
		ask := func() bool {
			v, ok, e := r.Next()
			if ok {
				_, n, _ := told(all[used:])
				got, used = append(got, v), used+n
			}
			failed = failed || e != api.OK
			if left := r.Left(); failed && left != 0 || !failed && left != fed-used || ok && e != api.OK || !ok && !value.Same(v, api.Value{}) {
				t.Fatalf("%d bytes of %d, %d of values: %d left, %t, %d", fed, len(all), used, left, ok, e)
			}
			return ok
		}
		for fed < len(all) {
			n := min(rnd.Intn(most+1), len(all)-fed)
			r.Feed([]byte(all[fed : fed+n]))
			fed += n
			for range rnd.Intn(3) {
				ask()
			}
		}
		for ask() {
		}
		same := len(got) == len(want) && failed == (fail != api.OK)
		for j := range min(len(got), len(want)) {
			same = same && value.Same(got[j], want[j])
		}
		if !same {
			t.Fatalf("%d values, not %d; failed: %t, not %t", len(got), len(want), failed, fail != api.OK)
		}
	}
}

// P5.2: a byte at a time, asked at each.
func TestBytesOneByOne(t *testing.T) {
	for _, c := range frames() {
		if len(c.s) > 600 {
			continue
		}
		r := New()
		for i := range len(c.s) {
			r.Feed([]byte{c.s[i]})
			if i+1 < len(c.s) {
				next(t, r, api.Value{}, false, api.OK, i+1)
			}
		}
		next(t, r, c.v, true, api.OK, 0)
	}
}

// P5.2: Readers are apart from one another.
func TestReadersAreApart(t *testing.T) {
	a, b := New(), New()
	a.Feed([]byte("$2\r\na"))
	b.Feed([]byte("?"))
	next(t, b, api.Value{}, false, api.ErrFrame, 0)
	next(t, a, api.Value{}, false, api.OK, 5)
	a.Feed([]byte("b\r\n"))
	next(t, a, value.Text("ab"), true, api.OK, 0)
	next(t, New(), api.Value{}, false, api.OK, 0)
}

// What is handed in isn't changed, spare room included, and not kept.
func TestWhatIsHandedInIsNotKept(t *testing.T) {
	const s = "*2\r\n$2\r\nab\r\n~1\r\n+c\r\n"
	want := value.List(value.Text("ab"), of(api.Set, text(api.Simple, "c")))
	room := []byte(s + "spare")
	b := room[:len(s)]
	v, _, _ := Parse(b)
	r := New()
	r.Feed(b[:9])
	r.Next()
	if string(room) != s+"spare" {
		t.Errorf("changed: %q", room)
	}
	clear(b[:9])
	r.Feed(b[9:])
	clear(room)
	next(t, r, want, true, api.OK, 0)
	if !value.Same(v, want) {
		t.Error("kept", v)
	}
	kept := New()
	first := []byte(":1\r")
	kept.Feed(first)
	kept.Feed([]byte("\n:2\r\n"))
	first[1] = '9'
	next(t, kept, value.Int(1), true, api.OK, 4)
	first = append(first, 'x')
	next(t, kept, value.Int(2), true, api.OK, 0)
}

// listsIn are all Lists of a value, with their spare room.
func listsIn(v api.Value) [][]api.Value {
	l := [][]api.Value{v.List[:cap(v.List)]}
	for _, w := range v.List {
		l = append(l, listsIn(w)...)
	}
	return l
}

// An answer is new memory, spare room too, and no two Lists share any.
func TestAnswersAreNew(t *testing.T) {
	s := "*3\r\n*3\r\n:1\r\n:2\r\n:3\r\n*0\r\n%1\r\n~2\r\n_\r\n_\r\n*1\r\n#t\r\n"
	r := New()
	r.Feed([]byte(s + s + s))
	var all [][]api.Value
	var kept []api.Value
	for range 3 {
		v, ok, e := r.Next()
		w, used, f := Parse([]byte(s))
		if !ok || e != api.OK || used != len(s) || f != api.OK || !value.Same(v, w) {
			t.Fatal(ok, e, used, f)
		}
		all = append(append(all, listsIn(v)...), listsIn(w)...)
		kept = append(kept, value.Copy(v))
	}
	seen := map[*api.Value]bool{}
	for _, l := range all {
		for i := range l {
			if seen[&l[i]] {
				t.Error("shared")
			}
			seen[&l[i]] = true
		}
	}
	for _, l := range all {
		clear(l)
	}
	for _, v := range kept {
		expect(t, s, v, len(s), api.OK)
	}
}

// P1: a panic at any of these arguments, or a call that doesn't end, fails the test.
func TestCallsEndAtAllArguments(t *testing.T) {
	r := rand.New(rand.NewSource(19))
	for _, piece := range []string{"*1\r\n", ">1\r\n", "%1\r\n", "*999\r\n", "*0\r\n", "$-1\r\n", "$0\r\n\r\n", "$4096\r\n", "+", "+\r", "\r\n", "\n", "\r", "\x00", "\xff", ":9", "*9", "_\r\n"} {
		s := times(piece, 300000)
		hold(t, s[:5000*len(piece)])
		Parse([]byte(s))
		d := New()
		d.Feed([]byte(s))
		for range 2000 {
			d.Next()
		}
	}
	for range 20000 {
		b := make([]byte, r.Intn(60))
		r.Read(b)
		hold(t, string(b))
	}
	expect(t, "", api.Value{}, 0, api.OK)
	if v, used, e := Parse(nil); !value.Same(v, api.Value{}) || used != 0 || e != api.OK {
		t.Error(v, used, e)
	}
}

// P1: reading on goes on as fast, however much waits behind.
func TestManyFramesAtOnce(t *testing.T) {
	r := New()
	const n = 500000
	r.Feed(bytes.Repeat([]byte(":1\r\n"), n))
	for i := range n {
		if v, ok, e := r.Next(); v.Int != 1 || !ok || e != api.OK || r.Left() != 4*(n-1-i) {
			t.Fatal(i, v, ok, e, r.Left())
		}
	}
	next(t, r, api.Value{}, false, api.OK, 0)
}

// P2: the same arguments have the same answers, whatever was asked between.
func TestAnswersDependOnArgumentsAlone(t *testing.T) {
	l := breaks()
	for _, c := range frames() {
		l = append(l, c.s, c.s[:len(c.s)-1])
	}
	type answer struct {
		v    api.Value
		used int
		e    api.Errno
	}
	first := make([]answer, len(l))
	for i, s := range l {
		first[i].v, first[i].used, first[i].e = Parse([]byte(s))
	}
	for i := len(l) - 1; i >= 0; i-- {
		expect(t, l[i], first[i].v, first[i].used, first[i].e)
	}
}
