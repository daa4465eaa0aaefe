package whole

import (
	"math"
	"math/big"
	"strings"
	"testing"

	"nearhand/api"
)

// The calls' signatures are part of what is promised.
var (
	_ func(int64) string                    = Text
	_ func(string) (int64, api.Errno)       = Parse
	_ func(int64, int64) (int64, api.Errno) = Add
	_ func(int64) (int64, api.Errno)        = Neg
	_ func(int64) int                       = Size
)

// edges are the numbers at which digits, signs or sums turn: both ends, 0, the
// powers of ten and of two, and what stands close to each of them.
func edges() []int64 {
	var l []int64
	for d := int64(0); d <= 3; d++ {
		l = append(l, d, -d, math.MaxInt64-d, math.MinInt64+d)
		l = append(l, math.MaxInt64/2+d, math.MaxInt64/2-d, math.MinInt64/2+d, math.MinInt64/2-d)
	}
	for p, i := int64(1), 0; i <= 18; p, i = p*10, i+1 {
		l = append(l, p-1, p, p+1, -p-1, -p, -p+1, 9*(p-1)+1, 5*(p/10))
	}
	for i := 0; i < 63; i++ {
		p := int64(1) << i
		l = append(l, p-1, p, p+1, -p-1, -p, -p+1)
	}
	return l
}

// digits is a number's text, worked out one digit at a time and from big
// numbers, so that it shares neither way nor bounds with what is tested.
func digits(n *big.Int) string {
	if n.Sign() == 0 {
		return "0"
	}
	ten, rest, digit := big.NewInt(10), new(big.Int).Abs(n), new(big.Int)
	s := ""
	for rest.Sign() > 0 {
		rest.QuoRem(rest, ten, digit)
		s = string(rune('0'+digit.Int64())) + s
	}
	if n.Sign() < 0 {
		s = "-" + s
	}
	return s
}

func TestErrorsHaveTheirNumbers(t *testing.T) {
	if api.OK != 0 || api.ErrWhole != 11 || api.ErrOver != 12 {
		t.Error(api.OK, api.ErrWhole, api.ErrOver)
	}
}

// P1.1
func TestTextOfKnownNumbers(t *testing.T) {
	for _, c := range []struct {
		n int64
		s string
	}{
		{0, "0"}, {1, "1"}, {-1, "-1"}, {7, "7"}, {9, "9"}, {-9, "-9"}, {10, "10"}, {-10, "-10"},
		{42, "42"}, {99, "99"}, {100, "100"}, {-100, "-100"}, {101, "101"}, {1234567890, "1234567890"},
		{4294967296, "4294967296"}, {999999999999999999, "999999999999999999"},
		{1000000000000000000, "1000000000000000000"}, {-1000000000000000000, "-1000000000000000000"},
		{math.MaxInt64, "9223372036854775807"}, {math.MaxInt64 - 1, "9223372036854775806"},
		{math.MinInt64, "-9223372036854775808"}, {math.MinInt64 + 1, "-9223372036854775807"},
	} {
		if s := Text(c.n); s != c.s {
			t.Errorf("Text(%d) = %q, not %q", c.n, s, c.s)
		}
		if n, e := Parse(c.s); n != c.n || e != api.OK {
			t.Errorf("Parse(%q) = %d, %d", c.s, n, e)
		}
		if size := Size(c.n); size != len(c.s) {
			t.Errorf("Size(%d) = %d, not %d", c.n, size, len(c.s))
		}
	}
}

// P1.1
func TestTextParseSizeAgree(t *testing.T) {
	check := func(n int64) {
		want := digits(big.NewInt(n))
		if s := Text(n); s != want {
			t.Errorf("Text(%d) = %q", n, s)
		}
		if m, e := Parse(want); m != n || e != api.OK {
			t.Errorf("Parse(%q) = %d, %d", want, m, e)
		}
		if size := Size(n); size != len(want) {
			t.Errorf("Size(%d) = %d", n, size)
		}
	}
	for _, n := range edges() {
		check(n)
	}
	for n := int64(-1200); n <= 1200; n++ {
		check(n)
	}
}

// P1.1
func TestParseOfWhatIsNoNumber(t *testing.T) {
	for _, s := range []string{
		"", "-", "+", "--", "-+", "+-",
		"-0", "+0", "+1", "-+1", "+-1", "--1", "++1", "1-", "1+", "1-1",
		"00", "01", "-00", "-01", "007", "0000000000000000000000000000001", "00000000000000000000",
		" ", " 1", "1 ", "- 1", "1 2", "\t1", "1\n", "1\r\n", "1\x00", "\x001", "\x00",
		".", "1.", ".1", "1.0", "0.0", "1,000", "1e3", "1E3", "0x10", "0X1", "0b1", "0o7", "0x", "ff", "a", "1a", "a1",
		"1_000", "_1", "1_", "1'000",
		"inf", "nan", "NaN", "null", "true", "nil",
		"\u0661", "\uff11", "\u22121", "\u20131", "1\u00a0", "\ufeff1", "\xff", "1\xff", "\xb9", "/", ":", "1:", "1/",
	} {
		if n, e := Parse(s); n != 0 || e != api.ErrWhole {
			t.Errorf("Parse(%q) = %d, %d", s, n, e)
		}
	}
}

// P1.1
func TestParseOfNumbersBeyondTheEnds(t *testing.T) {
	for _, s := range []string{
		"9223372036854775808", "-9223372036854775809", "9223372036854775809", "9223372036854775810", "-9223372036854775810",
		"9223372036854775817", "9300000000000000000", "9999999999999999999", "-9999999999999999999",
		"10000000000000000000", "-10000000000000000000",
		"18446744073709551615", "18446744073709551616", "18446744073709551617", "-18446744073709551616", "-18446744073709551615",
		"36893488147419103233", "92233720368547758070", "99999999999999999999", "340282366920938463463374607431768211457",
		"09223372036854775807", "-09223372036854775808", "+9223372036854775807",
		strings.Repeat("1", 5000), "-" + strings.Repeat("9", 5000),
		strings.Repeat("0", 5000), strings.Repeat("0", 5000) + "1", strings.Repeat("-", 5000) + "1", strings.Repeat("1", 18) + strings.Repeat(" ", 5000),
	} {
		if n, e := Parse(s); n != 0 || e != api.ErrWhole {
			t.Errorf("Parse of %d bytes, %.40q = %d, %d", len(s), s, n, e)
		}
	}
	var end big.Int
	for _, n := range []int64{math.MaxInt64, math.MinInt64} {
		for d := int64(1); d <= 300; d++ {
			step := d
			if n < 0 {
				step = -d
			}
			s := digits(end.Add(big.NewInt(n), big.NewInt(step)))
			if m, e := Parse(s); m != 0 || e != api.ErrWhole {
				t.Errorf("Parse(%q) = %d, %d", s, m, e)
			}
		}
	}
}

// P1.1: of all short texts of such letters those alone are numbers that the
// numbers' own texts name.
func TestParseOfAllShortTexts(t *testing.T) {
	numbers := map[string]int64{}
	for n := int64(-999); n <= 9999; n++ {
		numbers[digits(big.NewInt(n))] = n
	}
	const letters = "+-01289 ._eExX/:a\x00\xb1"
	var ask func(s string)
	ask = func(s string) {
		n, e := Parse(s)
		if want, ok := numbers[s]; ok {
			if n != want || e != api.OK {
				t.Errorf("Parse(%q) = %d, %d", s, n, e)
			}
		} else if n != 0 || e != api.ErrWhole {
			t.Errorf("Parse(%q) = %d, %d", s, n, e)
		}
		for i := 0; len(s) < 4 && i < len(letters); i++ {
			ask(s + letters[i:i+1])
		}
	}
	ask("")
}

// P1.1: every byte alone, and behind and ahead of a digit.
func TestParseOfEveryByte(t *testing.T) {
	for i := range 256 {
		b := string([]byte{byte(i)})
		digit := i >= '0' && i <= '9'
		for _, c := range []struct {
			s    string
			n    int64
			good bool
		}{
			{b, int64(i - '0'), digit},
			{"1" + b, int64(10 + i - '0'), digit},
			{b + "1", int64(10*(i-'0') + 1), digit && i != '0'},
		} {
			want, fail := c.n, api.OK
			if b == "-" && c.s == "-1" {
				want = -1
			} else if !c.good {
				want, fail = 0, api.ErrWhole
			}
			if n, e := Parse(c.s); n != want || e != fail {
				t.Errorf("Parse(%q) = %d, %d", c.s, n, e)
			}
		}
	}
}

// P1.2
func TestAddOfKnownNumbers(t *testing.T) {
	const most, least = math.MaxInt64, math.MinInt64
	for _, c := range []struct {
		a, b, n int64
		e       api.Errno
	}{
		{0, 0, 0, 0}, {2, 3, 5, 0}, {2, -3, -1, 0}, {-2, 3, 1, 0}, {-2, -3, -5, 0}, {5, -5, 0, 0},
		{most, 0, most, 0}, {least, 0, least, 0}, {most, -1, most - 1, 0}, {least, 1, least + 1, 0},
		{most - 1, 1, most, 0}, {least + 1, -1, least, 0}, {most, least, -1, 0}, {most, -most, 0, 0},
		{1 << 62, 1<<62 - 1, most, 0}, {-1 << 62, -1 << 62, least, 0},
		{most, 1, 0, api.ErrOver}, {least, -1, 0, api.ErrOver}, {most, most, 0, api.ErrOver}, {least, least, 0, api.ErrOver},
		{1 << 62, 1 << 62, 0, api.ErrOver}, {-1 << 62, -1<<62 - 1, 0, api.ErrOver}, {most - 1, 2, 0, api.ErrOver}, {least + 1, -2, 0, api.ErrOver},
		{-most, -2, 0, api.ErrOver}, {-most, -1, least, 0},
	} {
		if n, e := Add(c.a, c.b); n != c.n || e != c.e {
			t.Errorf("Add(%d, %d) = %d, %d", c.a, c.b, n, e)
		}
		if n, e := Add(c.b, c.a); n != c.n || e != c.e {
			t.Errorf("Add(%d, %d) = %d, %d", c.b, c.a, n, e)
		}
	}
}

// fit is a big number as one of 64 bits, and ErrOver, if it is none.
func fit(n *big.Int) (int64, api.Errno) {
	if !n.IsInt64() {
		return 0, api.ErrOver
	}
	return n.Int64(), api.OK
}

// P1.2
func TestAddAndNegHoldAtEveryEdge(t *testing.T) {
	l := edges()
	for _, a := range l {
		want, fail := fit(new(big.Int).Neg(big.NewInt(a)))
		if n, e := Neg(a); n != want || e != fail {
			t.Errorf("Neg(%d) = %d, %d", a, n, e)
		}
		for _, b := range l {
			want, fail := fit(new(big.Int).Add(big.NewInt(a), big.NewInt(b)))
			if n, e := Add(a, b); n != want || e != fail {
				t.Errorf("Add(%d, %d) = %d, %d", a, b, n, e)
			}
		}
	}
}

// P1.2
func TestNegOfKnownNumbers(t *testing.T) {
	for _, c := range []struct {
		a, n int64
		e    api.Errno
	}{
		{0, 0, 0}, {1, -1, 0}, {-1, 1, 0}, {10, -10, 0}, {math.MaxInt64, -math.MaxInt64, 0},
		{math.MinInt64 + 1, math.MaxInt64, 0}, {math.MinInt64, 0, api.ErrOver},
	} {
		if n, e := Neg(c.a); n != c.n || e != c.e {
			t.Errorf("Neg(%d) = %d, %d", c.a, n, e)
		}
	}
}

// P1: a panic at any of these arguments, or a call that doesn't end, fails the test.
func TestCallsEndAtAllArguments(t *testing.T) {
	l := edges()
	for i, a := range l {
		b := l[len(l)-1-i]
		_, _, _ = Text(a), Size(a), Text(b)
		Add(a, b)
		Neg(a)
		Parse(Text(a) + Text(b))
		Parse(Text(a)[1:])
	}
	for _, n := range []int{0, 1, 19, 20, 21, 1 << 20} {
		for _, s := range []string{"0", "1", "9", "-", "+", " ", "\x00", "\xff"} {
			Parse(strings.Repeat(s, n))
		}
	}
}

// P2: the same arguments have the same answers, whatever was asked between.
func TestAnswersDependOnArgumentsAlone(t *testing.T) {
	type answers struct {
		text       string
		size       int
		parsed     int64
		sum        int64
		neg        int64
		e1, e2, e3 api.Errno
	}
	ask := func(n int64) (a answers) {
		a.text, a.size = Text(n), Size(n)
		a.parsed, a.e1 = Parse(a.text)
		a.sum, a.e2 = Add(n, n)
		a.neg, a.e3 = Neg(n)
		return a
	}
	l := edges()
	first := make([]answers, len(l))
	for i, n := range l {
		first[i] = ask(n)
	}
	Parse("no number")
	for i := len(l) - 1; i >= 0; i-- {
		if again := ask(l[i]); again != first[i] {
			t.Errorf("%d: %v, then %v", l[i], first[i], again)
		}
	}
}
