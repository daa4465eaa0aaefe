package wire

import (
	"bytes"
	"fmt"
	"math"
	"math/big"
	"math/rand"
	"slices"
	"strconv"
	"strings"
	"testing"

	"nearhand/api"
	"nearhand/value"
)

// The calls' signatures are part of what is promised.
var (
	_ func(api.Value, int) []byte = Bytes
	_ func(...string) []byte      = Command
	_ func(api.Value, int) int    = Size
	_ func(api.Value) api.Value   = Down
)

var (
	minus0 = math.Copysign(0, -1)
	nan    = math.NaN()
	inf    = math.Inf(1)
	// otherNan has a sign and other bits: it is told as all of them.
	otherNan = math.Float64frombits(0xFFF8000000000123)
)

// protos are all for which P4.2 says the same, and 3, at their edges.
var protos = []int{3, 2, 1, 0, 4, -1, -3, 30, 256 + 3, 1<<32 + 3, math.MaxInt, math.MinInt}

// of is a value of a Kind with that List.
func of(kind int, l ...api.Value) api.Value { return api.Value{Kind: kind, List: l} }

// text is a value of a Kind with that Text.
func text(kind int, s string) api.Value { return api.Value{Kind: kind, Text: s} }

// point is a Real.
func point(f float64) api.Value { return api.Value{Kind: api.Real, Real: f} }

// flag is a Bool.
func flag(b bool) api.Value { return api.Value{Kind: api.Bool, Flag: b} }

// nested is so many Lists of that Kind around a value.
func nested(n, kind int, v api.Value) api.Value {
	for range n {
		v = of(kind, v)
		if kind == api.Map {
			v.List = append(v.List, value.Nil())
		}
	}
	return v
}

// known is a value, its bytes in the newer protocol, and in the older one.
type known struct {
	v        api.Value
	new, old string
}

// lines are texts of Simples, Errors and Bigs, as they stand.
func lines() []known {
	return []known{
		{value.Ok(), "+OK\r\n", "+OK\r\n"},
		{text(api.Simple, ""), "+\r\n", "+\r\n"},
		{text(api.Simple, "+a b\t\x00\xff:$"), "++a b\t\x00\xff:$\r\n", "++a b\t\x00\xff:$\r\n"},
		{value.Fail("ERR x"), "-ERR x\r\n", "-ERR x\r\n"},
		{value.Fail(""), "-\r\n", "-\r\n"},
		{text(api.Big, "0"), "(0\r\n", "$1\r\n0\r\n"},
		{text(api.Big, "-12"), "(-12\r\n", "$3\r\n-12\r\n"},
		{text(api.Big, "-007"), "(-007\r\n", "$4\r\n-007\r\n"},
		{text(api.Big, "9223372036854775808"), "(9223372036854775808\r\n", "$19\r\n9223372036854775808\r\n"},
		{text(api.Big, strings.Repeat("9", 4096)), "(" + strings.Repeat("9", 4096) + "\r\n", "$4096\r\n" + strings.Repeat("9", 4096) + "\r\n"},
		{text(api.Simple, strings.Repeat("x", 4096)), "+" + strings.Repeat("x", 4096) + "\r\n", "+" + strings.Repeat("x", 4096) + "\r\n"},
	}
}

// numbers are Wholes, Reals, Bools and Nulls.
func numbers() []known {
	return []known{
		{value.Int(0), ":0\r\n", ":0\r\n"},
		{value.Int(-7), ":-7\r\n", ":-7\r\n"},
		{value.Int(10), ":10\r\n", ":10\r\n"},
		{value.Int(math.MaxInt64), ":9223372036854775807\r\n", ":9223372036854775807\r\n"},
		{value.Int(math.MinInt64), ":-9223372036854775808\r\n", ":-9223372036854775808\r\n"},
		{point(0), ",0\r\n", "$1\r\n0\r\n"},
		{point(minus0), ",-0\r\n", "$2\r\n-0\r\n"},
		{point(1.5), ",1.5\r\n", "$3\r\n1.5\r\n"},
		{point(-10), ",-10\r\n", "$3\r\n-10\r\n"},
		{point(0.30000000000000004), ",0.30000000000000004\r\n", "$19\r\n0.30000000000000004\r\n"},
		{point(1e21), ",1e+21\r\n", "$5\r\n1e+21\r\n"},
		{point(1e20), ",100000000000000000000\r\n", "$21\r\n100000000000000000000\r\n"},
		{point(-1.25e-7), ",-1.25e-07\r\n", "$9\r\n-1.25e-07\r\n"},
		{point(math.MaxFloat64), ",1.7976931348623157e+308\r\n", "$23\r\n1.7976931348623157e+308\r\n"},
		{point(math.SmallestNonzeroFloat64), ",5e-324\r\n", "$6\r\n5e-324\r\n"},
		{point(inf), ",inf\r\n", "$3\r\ninf\r\n"},
		{point(-inf), ",-inf\r\n", "$4\r\n-inf\r\n"},
		{point(nan), ",nan\r\n", "$3\r\nnan\r\n"},
		{point(otherNan), ",nan\r\n", "$3\r\nnan\r\n"},
		{flag(true), "#t\r\n", ":1\r\n"},
		{flag(false), "#f\r\n", ":0\r\n"},
		{value.Nil(), "_\r\n", "$-1\r\n"},
	}
}

// texts are Bulks, Blobs and Verbatims, behind their lengths.
func texts() []known {
	long := strings.Repeat("\n", 4096)
	return []known{
		{value.Text(""), "$0\r\n\r\n", "$0\r\n\r\n"},
		{value.Text("a"), "$1\r\na\r\n", "$1\r\na\r\n"},
		{value.Text("a\r\n"), "$3\r\na\r\n\r\n", "$3\r\na\r\n\r\n"},
		{value.Text("\x00\xff$1\r\n"), "$6\r\n\x00\xff$1\r\n\r\n", "$6\r\n\x00\xff$1\r\n\r\n"},
		{value.Text("ä"), "$2\r\nä\r\n", "$2\r\nä\r\n"},
		{value.Text("0123456789"), "$10\r\n0123456789\r\n", "$10\r\n0123456789\r\n"},
		{value.Text(long), "$4096\r\n" + long + "\r\n", "$4096\r\n" + long + "\r\n"},
		{text(api.Blob, ""), "!0\r\n\r\n", "-\r\n"},
		{text(api.Blob, "ERR a"), "!5\r\nERR a\r\n", "-ERR a\r\n"},
		{text(api.Blob, "a\r\nb"), "!4\r\na\r\nb\r\n", "-a  b\r\n"},
		{text(api.Blob, "\na\rb c\n\n\r"), "!9\r\n\na\rb c\n\n\r\r\n", "- a b c   \r\n"},
		{text(api.Blob, "\xff\r\x00\xc3\n\x0b\x0c\x85"), "!8\r\n\xff\r\x00\xc3\n\x0b\x0c\x85\r\n", "-\xff \x00\xc3 \x0b\x0c\x85\r\n"},
		{text(api.Blob, long), "!4096\r\n" + long + "\r\n", "-" + strings.Repeat(" ", 4096) + "\r\n"},
		{text(api.Verbatim, "mkd:"), "=4\r\nmkd:\r\n", "$0\r\n\r\n"},
		{text(api.Verbatim, "txt:a\r\n"), "=7\r\ntxt:a\r\n\r\n", "$3\r\na\r\n\r\n"},
		{text(api.Verbatim, "txt:txt:a"), "=9\r\ntxt:txt:a\r\n", "$5\r\ntxt:a\r\n"},
		{text(api.Verbatim, "\xff\n::\x00"), "=5\r\n\xff\n::\x00\r\n", "$1\r\n\x00\r\n"},
		{text(api.Verbatim, "äa::"), "=5\r\näa::\r\n", "$1\r\n:\r\n"},
		{text(api.Verbatim, "txt:"+long[4:]), "=4096\r\ntxt:" + long[4:] + "\r\n", "$4092\r\n" + long[4:] + "\r\n"},
	}
}

// lists are Arrays, Sets, Pushes and Maps.
func lists() []known {
	k, one := value.Text("k"), value.Int(1)
	return []known{
		{value.List(), "*0\r\n", "*0\r\n"},
		{api.Value{Kind: api.Array, List: make([]api.Value, 0, 3)}, "*0\r\n", "*0\r\n"},
		{of(api.Set), "~0\r\n", "*0\r\n"},
		{of(api.Map), "%0\r\n", "*0\r\n"},
		{value.List(value.Text("a")), "*1\r\n$1\r\na\r\n", "*1\r\n$1\r\na\r\n"},
		{of(api.Set, one), "~1\r\n:1\r\n", "*1\r\n:1\r\n"},
		{of(api.Set, one, one), "~2\r\n:1\r\n:1\r\n", "*2\r\n:1\r\n:1\r\n"},
		{of(api.Push, value.Text("invalidate"), value.List(k)), ">2\r\n$10\r\ninvalidate\r\n*1\r\n$1\r\nk\r\n", "*2\r\n$10\r\ninvalidate\r\n*1\r\n$1\r\nk\r\n"},
		{of(api.Push, value.Nil()), ">1\r\n_\r\n", "*1\r\n$-1\r\n"},
		{of(api.Map, k, value.List(value.Nil())), "%1\r\n$1\r\nk\r\n*1\r\n_\r\n", "*2\r\n$1\r\nk\r\n*1\r\n$-1\r\n"},
		{of(api.Map, k, one, one, k), "%2\r\n$1\r\nk\r\n:1\r\n:1\r\n$1\r\nk\r\n", "*4\r\n$1\r\nk\r\n:1\r\n:1\r\n$1\r\nk\r\n"},
		{value.List(flag(true), point(2), text(api.Big, "3"), text(api.Blob, "\n"), text(api.Verbatim, "txt:v"), of(api.Set), of(api.Map), value.Nil(), value.Ok(), value.Fail("e")),
			"*10\r\n#t\r\n,2\r\n(3\r\n!1\r\n\n\r\n=5\r\ntxt:v\r\n~0\r\n%0\r\n_\r\n+OK\r\n-e\r\n",
			"*10\r\n:1\r\n$1\r\n2\r\n$1\r\n3\r\n- \r\n$1\r\nv\r\n*0\r\n*0\r\n$-1\r\n+OK\r\n-e\r\n"},
		{of(api.Set, of(api.Map, flag(false), of(api.Set, point(0.5)))), "~1\r\n%1\r\n#f\r\n~1\r\n,0.5\r\n", "*1\r\n*2\r\n:0\r\n*1\r\n$3\r\n0.5\r\n"},
		{nested(8, api.Set, flag(true)), strings.Repeat("~1\r\n", 8) + "#t\r\n", strings.Repeat("*1\r\n", 8) + ":1\r\n"},
		{nested(8, api.Map, flag(true)), strings.Repeat("%1\r\n", 8) + "#t\r\n" + strings.Repeat("_\r\n", 8), strings.Repeat("*2\r\n", 8) + ":1\r\n" + strings.Repeat("$-1\r\n", 8)},
		{of(api.Array, slices.Repeat([]api.Value{value.Nil()}, 999)...), "*999\r\n" + strings.Repeat("_\r\n", 999), "*999\r\n" + strings.Repeat("$-1\r\n", 999)},
		{of(api.Map, slices.Repeat([]api.Value{one}, 998)...), "%499\r\n" + strings.Repeat(":1\r\n", 998), "*998\r\n" + strings.Repeat(":1\r\n", 998)},
	}
}

// all is what is known.
func all() []known { return slices.Concat(lines(), numbers(), texts(), lists()) }

// short is the beginning of what is told of a fault.
func short(s string) string { return s[:min(len(s), 80)] }

func TestKnownValuesAreRight(t *testing.T) {
	seen := map[int]int{}
	for i, c := range all() {
		if value.Check(c.v) != api.OK {
			t.Error(i, short(c.new))
		}
		seen[c.v.Kind]++
	}
	for kind := api.Simple; kind <= api.Push; kind++ {
		if seen[kind] == 0 {
			t.Error("no value of Kind", kind)
		}
	}
}

// P4.1, P4.2, P4.3
func TestBytesAndSizeOfKnownValues(t *testing.T) {
	for i, c := range all() {
		for _, proto := range protos {
			want := c.old
			if proto == 3 {
				want = c.new
			}
			if b := Bytes(c.v, proto); string(b) != want {
				t.Errorf("%d, proto %d: %q, not %q", i, proto, short(string(b)), short(want))
			}
			if n := Size(c.v, proto); n != len(want) {
				t.Errorf("%d, proto %d: Size %d, not %d", i, proto, n, len(want))
			}
		}
	}
}

// P4.2
func TestDownOfKnownValues(t *testing.T) {
	for i, c := range []struct{ v, down api.Value }{
		{value.Ok(), value.Ok()}, {text(api.Simple, ""), text(api.Simple, "")}, {value.Fail("ERR a"), value.Fail("ERR a")},
		{value.Int(math.MinInt64), value.Int(math.MinInt64)}, {value.Text("a\r\n\xff"), value.Text("a\r\n\xff")}, {value.Nil(), value.Nil()},
		{value.List(), value.List()}, {value.List(value.Nil(), value.Int(2)), value.List(value.Nil(), value.Int(2))},
		{point(0), value.Text("0")}, {point(minus0), value.Text("-0")}, {point(1.5), value.Text("1.5")}, {point(otherNan), value.Text("nan")}, {point(-inf), value.Text("-inf")}, {point(1e300), value.Text("1e+300")},
		{flag(true), value.Int(1)}, {flag(false), value.Int(0)},
		{text(api.Big, "-00123"), value.Text("-00123")},
		{text(api.Verbatim, "txt:"), value.Text("")}, {text(api.Verbatim, "mkd:a:b\r\n"), value.Text("a:b\r\n")}, {text(api.Verbatim, "\xc3\xa4::x"), value.Text("x")},
		{text(api.Blob, ""), value.Fail("")}, {text(api.Blob, "a b"), value.Fail("a b")}, {text(api.Blob, "\r\n\n\ra\tb\v\xff\r"), value.Fail("    a\tb\v\xff ")},
		{of(api.Set), value.List()}, {of(api.Map), value.List()}, {of(api.Set, value.Int(1)), value.List(value.Int(1))},
		{of(api.Map, value.Text("k"), flag(true)), value.List(value.Text("k"), value.Int(1))},
		{of(api.Push, value.Text("invalidate"), value.Nil()), value.List(value.Text("invalidate"), value.Nil())},
		{value.List(of(api.Map, value.List(point(2.5)), of(api.Set, text(api.Blob, "\n"))), value.Nil()), value.List(value.List(value.List(value.Text("2.5")), value.List(value.Fail(" "))), value.Nil())},
		{of(api.Push, of(api.Push, flag(true))), value.List(value.List(value.Int(1)))},
		{nested(8, api.Map, text(api.Verbatim, "txt:a")), Down(nested(8, api.Map, value.Text("a")))},
	} {
		d := Down(c.v)
		if !value.Same(d, c.down) {
			t.Errorf("%d: Down(%+v) = %+v, not %+v", i, c.v, d, c.down)
		}
		if again := Down(d); !value.Same(again, d) {
			t.Errorf("%d: Down(%+v) = %+v", i, d, again)
		}
	}
}

// P4.2: of a Blob each byte alone, and among others.
func TestDownOfEveryByteOfABlob(t *testing.T) {
	for b := range 256 {
		c := string([]byte{byte(b)})
		want := c
		if b == 10 || b == 13 {
			want = " "
		}
		for _, s := range []string{"%", "%%", "a%", "%b", "a%b%c", "\xe2%\x82"} {
			in, out := strings.ReplaceAll(s, "%", c), strings.ReplaceAll(s, "%", want)
			if d := Down(text(api.Blob, in)); !value.Same(d, value.Fail(out)) || value.Check(d) != api.OK {
				t.Errorf("Down of a Blob %q = %+v", in, d)
			}
			if s := string(Bytes(value.List(text(api.Blob, in)), 2)); s != "*1\r\n-"+out+"\r\n" {
				t.Errorf("Bytes of a Blob %q = %q", in, s)
			}
		}
	}
}

// counted is a text behind its length.
func counted(mark, s string) string { return fmt.Sprintf("%s%d\r\n%s\r\n", mark, len(s), s) }

// spelled is P4.1 and P4.2, kind by kind, told in another way: no part of it
// goes by Down.
func spelled(v api.Value, old bool) string {
	fresh, aged := "", ""
	switch v.Kind {
	case api.Simple:
		return "+" + v.Text + "\r\n"
	case api.Error:
		return "-" + v.Text + "\r\n"
	case api.Whole:
		return fmt.Sprintf(":%s\r\n", big.NewInt(v.Int))
	case api.Bulk:
		return counted("$", v.Text)
	case api.Null:
		fresh, aged = "_\r\n", "$-1\r\n"
	case api.Bool:
		fresh, aged = "#f\r\n", ":0\r\n"
		if v.Flag {
			fresh, aged = "#t\r\n", ":1\r\n"
		}
	case api.Real:
		s := strings.ToLower(strings.TrimPrefix(strconv.FormatFloat(v.Real, 'g', -1, 64), "+"))
		fresh, aged = ","+s+"\r\n", counted("$", s)
	case api.Big:
		fresh, aged = "("+v.Text+"\r\n", counted("$", v.Text)
	case api.Blob:
		fresh, aged = counted("!", v.Text), "-"+strings.NewReplacer("\n", " ", "\r", " ").Replace(v.Text)+"\r\n"
	case api.Verbatim:
		fresh, aged = counted("=", v.Text), counted("$", v.Text[4:])
	case api.Map:
		fresh, aged = fmt.Sprintf("%%%d\r\n", len(v.List)/2), fmt.Sprintf("*%d\r\n", len(v.List))
	default:
		mark := map[int]string{api.Array: "*", api.Set: "~", api.Push: ">"}[v.Kind]
		fresh, aged = fmt.Sprintf("%s%d\r\n", mark, len(v.List)), fmt.Sprintf("*%d\r\n", len(v.List))
	}
	s := fresh
	if old {
		s = aged
	}
	for _, w := range v.List {
		s += spelled(w, old)
	}
	return s
}

// some is any right value of at most so many and so deep.
func some(r *rand.Rand, most, deep int) (v api.Value) {
	kinds := []int{api.Simple, api.Error, api.Whole, api.Bulk, api.Null, api.Real, api.Bool, api.Big, api.Blob, api.Verbatim, api.Array, api.Map, api.Set}
	if deep == 0 || most < 2 {
		kinds = kinds[:10]
	}
	v.Kind = kinds[r.Intn(len(kinds))]
	words := []string{"", "a", "$1", "OK", "-1", strings.Repeat("z", r.Intn(300))}
	switch v.Kind {
	case api.Simple, api.Error, api.Bulk:
		v.Text = words[r.Intn(len(words))]
	case api.Blob:
		v.Text = []string{"", "a", "\r\n", "a\nb\n\r", "ERR a b"}[r.Intn(5)]
	case api.Big:
		v.Text = []string{"0", "-1", "10", "007"}[r.Intn(4)]
	case api.Verbatim:
		v.Text = "txt:" + words[r.Intn(len(words))]
	case api.Whole:
		v.Int = r.Int63() >> r.Intn(63) * int64(1-2*r.Intn(2))
	case api.Real:
		v.Real = []float64{0, minus0, 1.5, nan, inf, -inf, 0.1, -3, 12345.625}[r.Intn(9)]
	case api.Bool:
		v.Flag = r.Intn(2) == 1
	case api.Array, api.Set, api.Map:
		for n := r.Intn(5); len(v.List) < n || v.Kind == api.Map && len(v.List)%2 == 1; {
			v.List = append(v.List, some(r, most/6, deep-1))
		}
	}
	return v
}

// isOld: has it those kinds alone that older readers know?
func isOld(v api.Value) bool {
	for _, w := range v.List {
		if !isOld(w) {
			return false
		}
	}
	return slices.Contains([]int{api.Simple, api.Error, api.Whole, api.Bulk, api.Array, api.Null}, v.Kind)
}

// P4.1, P4.2, P4.3: of many values.
func TestManyValues(t *testing.T) {
	r := rand.New(rand.NewSource(7))
	for range 5000 {
		v := some(r, 900, 8)
		if r.Intn(5) == 0 {
			v = of(api.Push, v)
		}
		for _, proto := range protos {
			want := spelled(v, proto != 3)
			if b := Bytes(v, proto); string(b) != want || Size(v, proto) != len(want) {
				t.Fatalf("proto %d, %+v: %q, not %q", proto, v, b, want)
			}
		}
		d := Down(v)
		if !isOld(d) || value.Count(d) != value.Count(v) || value.Depth(d) != value.Depth(v) || value.Check(d) != api.OK {
			t.Fatalf("Down(%+v) = %+v", v, d)
		}
		if isOld(v) && !value.Same(d, v) {
			t.Fatalf("Down(%+v) = %+v", v, d)
		}
		if !bytes.Equal(Bytes(d, 2), Bytes(v, 2)) || spelled(d, true) != string(Bytes(v, 2)) {
			t.Fatalf("%+v: %q, %q", v, Bytes(d, 2), Bytes(v, 2))
		}
	}
}

// P4.3
func TestCommandOfKnownTexts(t *testing.T) {
	for _, c := range []struct {
		l    []string
		want string
	}{
		{nil, "*0\r\n"}, {[]string{}, "*0\r\n"}, {[]string{""}, "*1\r\n$0\r\n\r\n"},
		{[]string{"GET", ""}, "*2\r\n$3\r\nGET\r\n$0\r\n\r\n"}, {[]string{"", "", ""}, "*3\r\n$0\r\n\r\n$0\r\n\r\n$0\r\n\r\n"},
		{[]string{"SET", "k", "a\r\nb"}, "*3\r\n$3\r\nSET\r\n$1\r\nk\r\n$4\r\na\r\nb\r\n"},
		{[]string{"\x00\xff", "ä", "*1\r\n"}, "*3\r\n$2\r\n\x00\xff\r\n$2\r\nä\r\n$4\r\n*1\r\n\r\n"},
		{[]string{strings.Repeat("x", 4096)}, "*1\r\n$4096\r\n" + strings.Repeat("x", 4096) + "\r\n"},
		{[]string{strings.Repeat("x", 4097)}, "*1\r\n$4097\r\n" + strings.Repeat("x", 4097) + "\r\n"},
		{[]string{strings.Repeat("\n", 100000), "a"}, "*2\r\n$100000\r\n" + strings.Repeat("\n", 100000) + "\r\n$1\r\na\r\n"},
		{slices.Repeat([]string{"b"}, 64), "*64\r\n" + strings.Repeat("$1\r\nb\r\n", 64)},
		{slices.Repeat([]string{"b"}, 65), "*65\r\n" + strings.Repeat("$1\r\nb\r\n", 65)},
		{slices.Repeat([]string{""}, 1001), "*1001\r\n" + strings.Repeat("$0\r\n\r\n", 1001)},
	} {
		if b := Command(c.l...); string(b) != c.want {
			t.Errorf("Command of %d: %q, not %q", len(c.l), short(string(b)), short(c.want))
		}
	}
	if b := Command(); string(b) != "*0\r\n" {
		t.Errorf("%q", b)
	}
}

// P4.3: a command's bytes are those of an Array of Bulks, in each protocol.
func TestCommandIsAnArrayOfBulks(t *testing.T) {
	r := rand.New(rand.NewSource(11))
	for n := range 200 {
		var l []string
		var v api.Value
		v.Kind = api.Array
		for range n % 70 {
			b := make([]byte, r.Intn(40))
			r.Read(b)
			l = append(l, string(b))
			v.List = append(v.List, value.Text(string(b)))
		}
		for _, proto := range protos {
			if b := Command(l...); !bytes.Equal(b, Bytes(v, proto)) || len(b) != Size(v, proto) {
				t.Fatalf("%q: %q", l, b)
			}
		}
	}
}

// listsIn are all Lists of a value, with their spare room.
func listsIn(v api.Value) [][]api.Value {
	l := [][]api.Value{v.List[:cap(v.List)]}
	for _, w := range v.List {
		l = append(l, listsIn(w)...)
	}
	return l
}

// apart: do no two of these share a place?
func apart(l [][]api.Value) bool {
	seen := map[*api.Value]bool{}
	for _, list := range l {
		for i := range list {
			if seen[&list[i]] {
				return false
			}
			seen[&list[i]] = true
		}
	}
	return true
}

// sharing are values whose Lists share memory within, and have spare room.
func sharing() []api.Value {
	shared := value.List(value.Int(1), of(api.Set, flag(true)))
	room := make([]api.Value, 2, 9)
	room[0], room[1] = shared, of(api.Map, shared, shared)
	return []api.Value{shared, of(api.Array, room...), of(api.Set, room...), of(api.Push, room[:1]...), of(api.Map, room[:0]...), nested(8, api.Map, shared), of(api.Null, room...), of(77, shared, shared)}
}

// P4.2: what is answered shares no List with what was handed in, nor within.
func TestDownHasListsOfItsOwn(t *testing.T) {
	for i := range sharing() {
		v := sharing()[i]
		as := value.Copy(v)
		d := Down(v)
		for _, proto := range protos {
			Bytes(v, proto)
			Size(v, proto)
		}
		if !value.Same(v, as) {
			t.Error(i, "changed", v)
		}
		if !apart(listsIn(d)) {
			t.Error(i, "shared within")
		}
		for _, l := range listsIn(v) {
			if !apart(append(listsIn(d), l)) {
				t.Error(i, "shared")
			}
		}
		kept := value.Copy(d)
		for _, l := range listsIn(v) {
			clear(l)
		}
		if !value.Same(d, kept) {
			t.Error(i, "kept")
		}
	}
	room := sharing()[1].List
	Down(of(api.Array, room...))
	Bytes(of(api.Array, room...), 2)
	for _, v := range room[2:cap(room)] {
		if !value.Same(v, api.Value{}) {
			t.Error("spare room was written to", v)
		}
	}
}

// Each answer is new memory, spare room too, whatever is done to another one.
func TestBytesAreNew(t *testing.T) {
	l := make([]string, 2, 5)
	l[0], l[1] = "GET", "k"
	ask := map[string]func() []byte{
		"old":     func() []byte { return Bytes(value.List(value.Nil(), flag(true)), 2) },
		"new":     func() []byte { return Bytes(value.List(value.Nil(), flag(true)), 3) },
		"null":    func() []byte { return Bytes(value.Nil(), 3) },
		"command": func() []byte { return Command(l...) },
		"empty":   func() []byte { return Command() },
	}
	for name, call := range ask {
		a, b := call(), call()
		want := string(b)
		for i := range a[:cap(a)] {
			a[:cap(a)][i] = 'X'
		}
		if string(b) != want || string(call()) != want {
			t.Errorf("%s: %q, %q, not %q", name, b, call(), want)
		}
		b = append(b, 'Y')
		if string(call()) != want {
			t.Errorf("%s: %q", name, call())
		}
	}
	b := Command(l...)
	if l[0] != "GET" || l[1] != "k" || l[:5][2] != "" {
		t.Error("changed", l[:5])
	}
	l[0] = "SET"
	if string(b) != "*2\r\n$3\r\nGET\r\n$1\r\nk\r\n" {
		t.Errorf("kept: %q", b)
	}
}

// wrong are values that aren't RIGHT, of each sort.
func wrong() []api.Value {
	var l []api.Value
	full := api.Value{Text: "a\r\n", Int: math.MinInt64, Real: otherNan, Flag: true, List: []api.Value{value.Nil(), {}, {Kind: -1}}}
	for _, kind := range []int{0, 1, 2, 3, 4, 5, 6, 7, 8, 9, 10, 11, 12, 13, 14, 15, 16, 255, 256, 260, -1, -4, 1 << 32, 4 + 1<<32, math.MaxInt, math.MinInt} {
		v := full
		v.Kind = kind
		l = append(l, v, api.Value{Kind: kind}, of(kind, value.Nil()), of(kind, of(kind), of(kind, of(kind))), value.List(v))
		for n := range 6 {
			l = append(l, text(kind, "abc:de"[:n]), text(kind, strings.Repeat("\r", n)))
		}
		l = append(l, text(kind, strings.Repeat("\n", 1<<20)))
	}
	l = append(l, of(api.Array, slices.Repeat([]api.Value{point(nan)}, 100000)...))
	for _, kind := range []int{api.Array, api.Map, api.Set, api.Push, api.Bulk, 0} {
		for _, n := range []int{9, 50, 1000, 1<<16 - 1, 1 << 16} {
			l = append(l, nested(n, kind, flag(true)))
		}
	}
	return l
}

// P1: a panic at any of these arguments, or a call that doesn't end, fails the test.
func TestCallsEndAtAllArguments(t *testing.T) {
	for _, v := range wrong() {
		for _, proto := range []int{3, 2, 0, math.MinInt} {
			if n := Size(v, proto); n < 0 {
				t.Error(n)
			}
			Bytes(v, proto)
		}
		Down(v)
	}
	for _, c := range all() {
		for _, proto := range protos {
			Bytes(c.v, proto)
		}
	}
	Command(nil...)
	Command(slices.Repeat([]string{"\x00"}, 200000)...)
	Command(strings.Repeat("a", 1<<24))
}

// P1: also of values that have themselves in them, which are no trees at all.
func TestCallsEndAtValuesThatHoldThemselves(t *testing.T) {
	for _, kind := range []int{api.Array, api.Map, api.Set, api.Push, api.Null, 0} {
		for _, n := range []int{1, 2, 3} {
			v := of(kind, make([]api.Value, n)...)
			for i := range v.List {
				v.List[i] = v
			}
			for _, w := range []api.Value{v, value.List(value.Nil(), v), of(api.Map, value.Nil(), of(kind, v, v))} {
				if n := Size(w, 2); n != len(Bytes(w, 2)) {
					t.Error(kind, n)
				}
				Bytes(w, 3)
				Down(w)
			}
		}
	}
}

// P2: the same arguments have the same answers, whatever was asked between.
func TestAnswersDependOnArgumentsAlone(t *testing.T) {
	l := wrong()
	for _, c := range all() {
		l = append(l, c.v)
	}
	type answers struct {
		old, new string
		size     int
		down     api.Value
	}
	ask := func(v api.Value) answers {
		return answers{string(Bytes(v, 2)), string(Bytes(v, 3)), Size(v, 3), Down(v)}
	}
	first := make([]answers, len(l))
	for i, v := range l {
		first[i] = ask(v)
	}
	for i := len(l) - 1; i >= 0; i-- {
		again := ask(l[i])
		if again.old != first[i].old || again.new != first[i].new || again.size != first[i].size || !value.Same(again.down, first[i].down) {
			t.Error(i, short(again.new), short(first[i].new))
		}
	}
}
