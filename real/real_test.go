package real

import (
	"math"
	"math/big"
	"math/rand"
	"strconv"
	"strings"
	"testing"

	"nearhand/api"
)

// The calls' signatures are part of what is promised.
var (
	_ func(float64) string                        = Text
	_ func(string) (float64, api.Errno)           = Parse
	_ func(float64, float64) (float64, api.Errno) = Add
	_ func(float64, float64) bool                 = Same
	_ func(float64, float64) int                  = Order
	_ func(float64) uint64                        = Bits
)

var (
	inf     = math.Inf(1)
	below   = math.Inf(-1)
	nan     = math.NaN()
	minus0  = math.Copysign(0, -1)
	least   = math.SmallestNonzeroFloat64
	most    = math.MaxFloat64
	normal  = 0x1p-1022
	halfway = new(big.Rat).SetInt(new(big.Int).Sub(new(big.Int).Lsh(big.NewInt(1), 1024), new(big.Int).Lsh(big.NewInt(1), 970)))
)

// same is Same by the library's bits, for numbers that aren't nan.
func same(a, b float64) bool { return math.Float64bits(a) == math.Float64bits(b) }

// finite are numbers at which digits, exponents or signs turn, and many others.
func finite() []float64 {
	l := []float64{0, 1, 1.5, 0.1, 0.2, 0.3, 100, 123.456, 9.5, 1e20, 1e21, 1e22, 1e23, 1e-4, 1e-5, 1e-6, least, most, normal, math.Pi,
		0.1 + 0.2, 5e-324, 1e-323, 2.5e-323, 9007199254740991, 9007199254740992, 9007199254740994, 18014398509481988, 18014398509481996,
		2.2250738585072011e-308, 9.5367431640625e-07, 5.684341886080801e-14, 8.41e21, 2.0919495182368195e+19, 2e-44, 1.7800590868057611e-307}
	for e := -1074; e <= 1023; e++ {
		l = append(l, math.Ldexp(1, e))
	}
	for e := -324; e <= 308; e++ {
		f, _ := strconv.ParseFloat("1e"+strconv.Itoa(e), 64)
		l = append(l, f)
	}
	r := rand.New(rand.NewSource(7))
	for i := range 700 {
		bits := r.Uint64() &^ (1 << 63)
		if bits>>52 == 0x7FF {
			continue
		}
		l = append(l, math.Float64frombits(bits), math.Float64frombits(r.Uint64()>>(12+i%50)), float64(r.Int63()>>(i%62)), float64(r.Intn(1000000))/1000)
	}
	n := len(l)
	for i := range n {
		for _, near := range []float64{math.Nextafter(l[i], inf), math.Nextafter(l[i], 0)} {
			if !math.IsInf(near, 0) {
				l = append(l, near)
			}
		}
	}
	n = len(l)
	for i := range n {
		l = append(l, -l[i])
	}
	return l
}

// power is ten by itself n times.
func power(n int) *big.Int { return new(big.Int).Exp(big.NewInt(10), big.NewInt(int64(n)), nil) }

// decimal is digits by a power of ten, exactly.
func decimal(digits *big.Int, exp int) *big.Rat {
	r := new(big.Rat).SetInt(digits)
	if exp >= 0 {
		return r.Mul(r, new(big.Rat).SetInt(power(exp)))
	}
	return r.Quo(r, new(big.Rat).SetInt(power(-exp)))
}

// nearest is the number that is nearest to r, above 0.
func nearest(r *big.Rat) (float64, bool) {
	if r.Cmp(halfway) >= 0 {
		return 0, false
	}
	f, _ := r.Float64()
	return f, true
}

// fewest is a number's row of digits and its power of ten, by trying all that
// stand next to it, from the fewest digits on.
func fewest(f float64) (string, int) {
	exact := new(big.Rat).SetFloat64(f)
	x, _ := strconv.Atoi(strings.Split(strconv.FormatFloat(f, 'e', 30, 64), "e")[1])
	for n := 1; ; n++ {
		var best, gap *big.Rat
		var digits *big.Int
		unit := x - n + 1
		scaled := new(big.Rat).Mul(exact, decimal(big.NewInt(1), -unit))
		floor := new(big.Int).Quo(scaled.Num(), scaled.Denom())
		for _, c := range []*big.Int{floor, new(big.Int).Add(floor, big.NewInt(1))} {
			r := decimal(c, unit)
			if got, ok := nearest(r); !ok || got != f {
				continue
			}
			d := new(big.Rat).Sub(r, exact)
			d.Abs(d)
			if best == nil || d.Cmp(gap) < 0 || d.Cmp(gap) == 0 && c.Bit(0) == 0 {
				best, gap, digits = r, d, c
			}
		}
		if best != nil {
			s := digits.String()
			if len(s) > n {
				x++
			}
			return strings.TrimRight(s, "0"), x
		}
	}
}

// written is the text that the document asks of a number above 0.
func written(f float64) string {
	row, x := fewest(f)
	if x < -4 || x >= 21 {
		s := row[:1]
		if len(row) > 1 {
			s += "." + row[1:]
		}
		sign, exp := "+", strconv.Itoa(x)
		if x < 0 {
			sign, exp = "-", strconv.Itoa(-x)
		}
		if len(exp) < 2 {
			exp = "0" + exp
		}
		return s + "e" + sign + exp
	}
	if x < 0 {
		return "0." + strings.Repeat("0", -x-1) + row
	}
	if len(row) <= x+1 {
		return row + strings.Repeat("0", x+1-len(row))
	}
	return row[:x+1] + "." + row[x+1:]
}

func TestErrorsAndLimitsHaveTheirNumbers(t *testing.T) {
	if api.ErrReal != 21 || api.MaxReal != 64 {
		t.Error(api.ErrReal, api.MaxReal)
	}
}

// P2.2, P2.1
func TestTextOfKnownNumbers(t *testing.T) {
	for _, c := range []struct {
		f float64
		s string
	}{
		{0, "0"}, {minus0, "-0"}, {inf, "inf"}, {below, "-inf"}, {nan, "nan"},
		{1, "1"}, {-1, "-1"}, {10, "10"}, {-10, "-10"}, {1.5, "1.5"}, {-1.5, "-1.5"}, {0.5, "0.5"}, {-0.5, "-0.5"}, {100, "100"}, {120, "120"}, {123.456, "123.456"}, {0.1, "0.1"}, {0.30000000000000004, "0.30000000000000004"}, {3.0000000000000004, "3.0000000000000004"},
		{0.01, "0.01"}, {0.001, "0.001"}, {0.0001, "0.0001"}, {-0.0001, "-0.0001"}, {0.00012, "0.00012"}, {0.00010000000000000002, "0.00010000000000000002"},
		{9.999999999999999e-05, "9.999999999999999e-05"}, {0.00001, "1e-05"}, {-0.00001, "-1e-05"}, {1.25e-7, "1.25e-07"}, {1e-9, "1e-09"}, {1e-10, "1e-10"}, {1.5e-99, "1.5e-99"}, {1e-100, "1e-100"},
		{123456789012345680, "123456789012345680"}, {1e20, "100000000000000000000"}, {-1e20, "-100000000000000000000"}, {123456789012345680000, "123456789012345680000"},
		{999999999999999900000, "999999999999999900000"}, {1e21, "1e+21"}, {-1e21, "-1e+21"}, {1.5e21, "1.5e+21"}, {1e22, "1e+22"}, {1e23, "1e+23"}, {9.999999999999997e22, "9.999999999999997e+22"}, {1.0000000000000001e23, "1.0000000000000001e+23"}, {1e99, "1e+99"}, {1e100, "1e+100"}, {-2.5e300, "-2.5e+300"},
		{9007199254740991, "9007199254740991"}, {9007199254740992, "9007199254740992"}, {9007199254740993, "9007199254740992"}, {9223372036854775808, "9223372036854776000"}, {9223372036854774784, "9223372036854775000"}, {4611686018427387904, "4611686018427388000"},
		{least, "5e-324"}, {-least, "-5e-324"}, {2 * least, "1e-323"}, {3 * least, "1.5e-323"}, {normal, "2.2250738585072014e-308"}, {normal - least, "2.225073858507201e-308"}, {most, "1.7976931348623157e+308"}, {-most, "-1.7976931348623157e+308"},
	} {
		if s := Text(c.f); s != c.s {
			t.Errorf("Text(%g) = %q, not %q", c.f, s, c.s)
		}
		if f, e := Parse(c.s); e != api.OK || Bits(f) != Bits(c.f) {
			t.Errorf("Parse(%q) = %g, %d", c.s, f, e)
		}
	}
}

// P2.2, P2.1: the text is the one that trying finds, and is parsed as its number.
func TestTextHasTheFewestAndNearestDigits(t *testing.T) {
	check := func(f float64, want string) {
		if s := Text(f); s != want {
			t.Errorf("Text(%x) = %q, not %q", f, s, want)
		}
		if g, e := Parse(want); !same(g, f) || e != api.OK {
			t.Errorf("Parse(%q) = %x, %d, not %x", want, g, e, f)
		}
	}
	for _, f := range finite() {
		if f > 0 {
			want := written(f)
			check(f, want)
			check(-f, "-"+want)
		}
	}
}

// P2.1
func TestParseOfAllForms(t *testing.T) {
	for _, c := range []struct {
		s string
		f float64
	}{
		{"0", 0}, {"-0", minus0}, {"00", 0}, {"-000", minus0}, {"0.0", 0}, {"-0.00", minus0}, {"0e0", 0}, {"-0e5", minus0}, {"0e999999999999999999999", 0}, {"0.000e+400", 0}, {"-0e-400", minus0},
		{"1", 1}, {"01", 1}, {"007", 7}, {"-007.50", -7.5}, {"1.0", 1}, {"1.50", 1.5}, {"12.25", 12.25}, {"0.1", 0.1}, {"00.1", 0.1},
		{"1e0", 1}, {"1e1", 10}, {"1e+1", 10}, {"1e-1", 0.1}, {"1e01", 10}, {"1e+01", 10}, {"1e-01", 0.1}, {"1e000000002", 100}, {"1.5e3", 1500}, {"-1.5e-3", -0.0015}, {"0.00015e4", 1.5}, {"15000e-4", 1.5}, {"-1e5", -100000},
		{"9007199254740993", 9007199254740992}, {"9007199254740995", 9007199254740996}, {"9007199254740993.0000000001", 9007199254740994}, {"9007199254740992.9999999999", 9007199254740992}, {"9007199254740994.9999999", 9007199254740994},
		{"-9007199254740993", -9007199254740992}, {"9007199254740993e0", 9007199254740992}, {"0.9007199254740993e16", 9007199254740992},
		{"1e-400", 0}, {"-1e-400", minus0}, {"2e-324", 0}, {"2.4703282292062327e-324", 0}, {"2.4703282292062328e-324", least}, {"3e-324", least}, {"-3e-324", -least}, {"7e-324", least}, {"8e-324", 2 * least}, {"1e-99999999999999999999", 0},
		{"1.7976931348623157e308", most}, {"1.7976931348623157e+308", most}, {"-1.7976931348623157e+308", -most}, {"17976931348623157e292", most}, {"0.00017976931348623157e+312", most},
		{"2.2250738585072011e-308", normal - least}, {"2.2250738585072012e-308", normal}, {"2.2250738585072014e-308", normal},
		{"inf", inf}, {"-inf", below},
		{strings.Repeat("0", 63) + "7", 7}, {"-" + strings.Repeat("0", 62) + "7", -7}, {"1." + strings.Repeat("0", 62), 1}, {strings.Repeat("9", 64), 1e64}, {"1e" + strings.Repeat("0", 60) + "12", 1e12}, {"1e-" + strings.Repeat("0", 59) + "12", 1e-12}, {"0." + strings.Repeat("0", 59) + "1e0", 1e-60}, {"1" + strings.Repeat("0", 59) + "e-59", 1},
		{"9007199254740993." + strings.Repeat("0", 46) + "1", 9007199254740994}, {"9007199254740993." + strings.Repeat("0", 47), 9007199254740992},
	} {
		if len(c.s) > 64 {
			t.Fatal(c.s)
		}
		if f, e := Parse(c.s); !same(f, c.f) || e != api.OK {
			t.Errorf("Parse(%q) = %g, %d, not %g", c.s, f, e, c.f)
		}
	}
	if f, e := Parse("nan"); math.Float64bits(f) != 9221120237041090561 || e != api.OK {
		t.Error(math.Float64bits(f), e)
	}
}

// P2.1: the nearest number is the one of exact sums, whatever the digits.
func TestParseIsNearest(t *testing.T) {
	r := rand.New(rand.NewSource(3))
	for i := range 20000 {
		n := 1 + r.Intn(40)
		row := make([]byte, n)
		for j := range row {
			row[j] = byte('0' + r.Intn(10))
		}
		exp := r.Intn(40) - 20
		if i%2 == 0 {
			exp = r.Intn(720) - 360
		}
		point := r.Intn(n)
		s, shift := string(row), 0
		if point > 0 {
			s, shift = s[:point]+"."+s[point:], n-point
		}
		digits, _ := new(big.Int).SetString(string(row), 10)
		want, ok := nearest(decimal(digits, exp-shift))
		f, e := Parse(s + "e" + strconv.Itoa(exp))
		if ok && (!same(f, want) || e != api.OK) || !ok && (!same(f, 0) || e != api.ErrReal) {
			t.Errorf("Parse(%q e %d) = %g, %d, not %g", s, exp, f, e, want)
		}
	}
}

// P2.1: what lies just between two numbers goes to the one whose last bit is 0.
func TestParseOfHalfways(t *testing.T) {
	for i := int64(0); i < 2000; i++ {
		a := 1<<53 + 2*i
		want := float64(a)
		if a/2%2 == 1 {
			want = float64(a + 2)
		}
		s := strconv.FormatInt(a+1, 10)
		for _, c := range []struct {
			s    string
			want float64
		}{{s, want}, {s + ".000", want}, {"-" + s, -want}, {s + ".00000000000000000001", float64(a + 2)}, {strconv.FormatInt(a, 10) + ".99999999999999999999", float64(a)}} {
			if f, e := Parse(c.s); !same(f, c.want) || e != api.OK {
				t.Errorf("Parse(%q) = %f, %d, not %f", c.s, f, e, c.want)
			}
		}
	}
}

// P2.1
func TestParseOfWhatIsNoNumber(t *testing.T) {
	for _, s := range []string{
		"", "-", "+", "--", ".", "-.", "e", "-e", "e1", "-e1", "1e", "-1e", "1e+", "1e-", "1e++1", "1e--1", "1e+-1", "1e1e1", "1e1.5", "1e.5", "1e1-", "1e 1", "1 e1", "1E1", "1E+1", "1e1+", "1+1", "1-1",
		"+1", "+0", "--1", "-+1", ".5", "-.5", "1.", "-1.", "1.e1", ".e1", "1..5", "1.5.", "1.5.5", "1.-5", "1.+5", "1,5", "1_000", "0_1", "1_", "_1", "1e1_0",
		" ", " 1", "1 ", "- 1", "1\n", "\t1", "1\x00", "\x001", "\x00",
		"Inf", "INF", "+inf", "+Inf", "-Inf", "--inf", "infinity", "-infinity", "Infinity", "in", "-in", "i", "inf ", " inf", "inf0", "1inf", "-inf1", "∞", "in\x00",
		"NaN", "NAN", "Nan", "-nan", "+nan", "nan ", " nan", "nan0", "nan()", "nan(1)", "na", "nann", "snan",
		"0x1", "0x1p3", "0X1P3", "0x", "1p3", "0b1", "0o7", "1f", "1d", "1h", "ff", "abc", "true", "null",
		"\u0661", "\uff11", "\u22121", "\ufeff1", "\xff", "1\xff", "1\xb9", "1/2", "1:", "1*2",
	} {
		if f, e := Parse(s); !same(f, 0) || e != api.ErrReal {
			t.Errorf("Parse(%q) = %g, %d", s, f, e)
		}
	}
}

// P2.1
func TestParseBeyondAllNumbers(t *testing.T) {
	for _, s := range []string{
		"1e309", "-1e309", "1.8e308", "-1.8e308", "1.7976931348623159e308", "17976931348623159e292", "1e+400", "1e99999", "-1e99999999999999999999999", "10e308", "1" + strings.Repeat("0", 59) + "e300", "0.001e312",
	} {
		if f, e := Parse(s); !same(f, 0) || e != api.ErrReal {
			t.Errorf("Parse(%q) = %g, %d", s, f, e)
		}
	}
}

// P2.1
func TestParseOfLongTexts(t *testing.T) {
	for _, s := range []string{"%", "1%", "-%1", "1.%", "0.%1", "1e%", "1e-%1", "1.5e+%7"} {
		for _, n := range []int{63, 64, 65, 66, 100, 5000} {
			text := strings.Replace(s, "%", strings.Repeat("0", n-len(s)+1), 1)
			if len(text) != n {
				t.Fatal(text)
			}
			f, e := Parse(text)
			if n > 64 && (!same(f, 0) || e != api.ErrReal) || n <= 64 && e != api.OK {
				t.Errorf("Parse(%q) of %d bytes = %g, %d", text, n, f, e)
			}
		}
	}
	for _, s := range []string{"inf", "-inf", "nan"} {
		if f, e := Parse(strings.Repeat(" ", 61) + s); !same(f, 0) || e != api.ErrReal {
			t.Error(s, f, e)
		}
	}
}

// shaped is P2.1's form, walked letter by letter.
func shaped(s string) bool {
	const (
		begin = iota
		minus
		whole
		point
		part
		power
		sign
		last
		none
	)
	state := begin
	for i := range len(s) {
		digit, c := s[i] >= '0' && s[i] <= '9', s[i]
		switch {
		case digit && state <= whole:
			state = whole
		case digit && state <= part:
			state = part
		case digit && state <= last:
			state = last
		case c == '-' && state == begin:
			state = minus
		case c == '.' && state == whole:
			state = point
		case c == 'e' && (state == whole || state == part):
			state = power
		case (c == '+' || c == '-') && state == power:
			state = sign
		default:
			state = none
		}
	}
	return state == whole || state == part || state == last
}

// P2.1: of all short texts of such letters.
func TestParseOfAllShortTexts(t *testing.T) {
	const letters = "+-019.eE x_"
	var ask func(s string)
	ask = func(s string) {
		f, e := Parse(s)
		if shaped(s) {
			want, err := strconv.ParseFloat(s, 64)
			if bad := err != nil; bad != (e == api.ErrReal) || !bad && (!same(f, want) || e != api.OK) || bad && !same(f, 0) {
				t.Errorf("Parse(%q) = %g, %d", s, f, e)
			}
		} else if !same(f, 0) || e != api.ErrReal {
			t.Errorf("Parse(%q) = %g, %d", s, f, e)
		}
		for i := 0; len(s) < 5 && i < len(letters); i++ {
			ask(s + letters[i:i+1])
		}
	}
	ask("")
}

// P2.1: each byte in each place of a number.
func TestParseOfEveryByte(t *testing.T) {
	const s = "-12.5e+3"
	for i := range len(s) {
		for b := range 256 {
			text := s[:i] + string([]byte{byte(b)}) + s[i+1:]
			f, e := Parse(text)
			if shaped(text) != (e == api.OK) || e != api.OK && (!same(f, 0) || e != api.ErrReal) {
				t.Errorf("Parse(%q) = %g, %d", text, f, e)
			}
		}
	}
}

// inOrder is what Order tells, from the least on.
func inOrder() []float64 {
	return []float64{below, -most, -1e300, -2, math.Nextafter(-1, below), -1, math.Nextafter(-1, 0), -normal, -2 * least, -least, minus0,
		0, least, 2 * least, normal, math.Nextafter(1, 0), 1, math.Nextafter(1, 2), 2, 1e300, most, inf, nan}
}

// nans are nans of all signs and bits.
func nans() []float64 {
	l := []float64{nan}
	for _, bits := range []uint64{0x7FF0000000000001, 0x7FF8000000000000, 0x7FF8000000000001, 0x7FFFFFFFFFFFFFFF, 0xFFF0000000000001, 0xFFF8000000000000, 0xFFF8000000000123, 0xFFFFFFFFFFFFFFFF} {
		l = append(l, math.Float64frombits(bits))
	}
	return l
}

// P2.3
func TestOrderAndSame(t *testing.T) {
	l := inOrder()
	for i, a := range l {
		for j, b := range l {
			want := 0
			if i < j {
				want = -1
			} else if i > j {
				want = 1
			}
			if n := Order(a, b); n != want {
				t.Errorf("Order(%g, %g) = %d", a, b, n)
			}
			if Same(a, b) != (i == j) {
				t.Errorf("Same(%g, %g)", a, b)
			}
		}
	}
}

// P2.3, P2.2: there is one nan.
func TestAllNansAreOne(t *testing.T) {
	for _, a := range nans() {
		if Bits(a) != 9221120237041090561 || Text(a) != "nan" {
			t.Errorf("%x: %x, %s", math.Float64bits(a), Bits(a), Text(a))
		}
		for _, b := range nans() {
			if Order(a, b) != 0 || !Same(a, b) {
				t.Errorf("%x, %x", math.Float64bits(a), math.Float64bits(b))
			}
		}
		for _, b := range inOrder()[:22] {
			if Order(a, b) != 1 || Order(b, a) != -1 || Same(a, b) || Same(b, a) {
				t.Errorf("%x, %g", math.Float64bits(a), b)
			}
			if f, e := Add(a, b); !same(f, 0) || e != api.ErrReal {
				t.Errorf("Add(nan, %g) = %g, %d", b, f, e)
			}
			if f, e := Add(b, a); !same(f, 0) || e != api.ErrReal {
				t.Errorf("Add(%g, nan) = %g, %d", b, f, e)
			}
		}
		if f, e := Add(a, a); !same(f, 0) || e != api.ErrReal {
			t.Errorf("Add(nan, nan) = %g, %d", f, e)
		}
	}
}

// P2.3
func TestBits(t *testing.T) {
	for _, c := range []struct {
		f    float64
		bits uint64
	}{{0, 0}, {minus0, 1 << 63}, {1, 0x3FF0000000000000}, {-1, 0xBFF0000000000000}, {least, 1}, {-least, 1<<63 | 1}, {most, 0x7FEFFFFFFFFFFFFF}, {-most, 0xFFEFFFFFFFFFFFFF}, {inf, 0x7FF0000000000000}, {below, 0xFFF0000000000000}, {0.1, 0x3FB999999999999A}} {
		if Bits(c.f) != c.bits {
			t.Errorf("Bits(%g) = %x", c.f, Bits(c.f))
		}
	}
	for _, f := range finite() {
		if Bits(f) != math.Float64bits(f) || !Same(f, f) {
			t.Errorf("Bits(%g) = %x", f, Bits(f))
		}
	}
}

// P2.3
func TestAddOfKnownNumbers(t *testing.T) {
	for _, c := range []struct {
		a, b, f float64
		e       api.Errno
	}{
		{0.1, 0.2, 0.30000000000000004, 0}, {1, 2, 3, 0}, {1.5, -0.5, 1, 0}, {1, -1, 0, 0}, {-1, 1, 0, 0}, {0, 0, 0, 0}, {minus0, 0, 0, 0}, {0, minus0, 0, 0}, {minus0, minus0, minus0, 0}, {minus0, 1, 1, 0},
		{1e308, 1e-308, 1e308, 0}, {9007199254740992, 1, 9007199254740992, 0}, {least, least, 2 * least, 0}, {least, -least, 0, 0}, {most, -most, 0, 0}, {most, 1, most, 0}, {most, 9.9e291, most, 0}, {most / 2, most / 2, most, 0},
		{most, most, 0, api.ErrReal}, {-most, -most, 0, api.ErrReal}, {most, 1e292, 0, api.ErrReal}, {-most, -1e292, 0, api.ErrReal}, {1e308, 1e308, 0, api.ErrReal},
		{inf, 1, 0, api.ErrReal}, {below, 1, 0, api.ErrReal}, {inf, inf, 0, api.ErrReal}, {below, below, 0, api.ErrReal}, {inf, below, 0, api.ErrReal}, {inf, -most, 0, api.ErrReal}, {below, most, 0, api.ErrReal}, {nan, 1, 0, api.ErrReal}, {nan, inf, 0, api.ErrReal},
	} {
		if f, e := Add(c.a, c.b); !same(f, c.f) || e != c.e {
			t.Errorf("Add(%g, %g) = %g, %d", c.a, c.b, f, e)
		}
		if f, e := Add(c.b, c.a); !same(f, c.f) || e != c.e {
			t.Errorf("Add(%g, %g) = %g, %d", c.b, c.a, f, e)
		}
	}
	a, _ := Add(0.1, 0.2)
	if Text(a) != "0.30000000000000004" {
		t.Error(Text(a))
	}
}

// P2.3
func TestAddAndOrderOfManyNumbers(t *testing.T) {
	l := finite()
	for i, a := range l {
		b := l[(i*7919+13)%len(l)]
		f, e := Add(a, b)
		if sum := a + b; math.IsInf(sum, 0) && (!same(f, 0) || e != api.ErrReal) || !math.IsInf(sum, 0) && (!same(f, sum) || e != api.OK) {
			t.Errorf("Add(%g, %g) = %g, %d", a, b, f, e)
		}
		want := 0
		if a < b {
			want = -1
		} else if a > b {
			want = 1
		}
		if a == 0 && b == 0 {
			continue
		}
		if n := Order(a, b); n != want {
			t.Errorf("Order(%g, %g) = %d", a, b, n)
		}
	}
}

// P1: a panic at any of these arguments, or a call that doesn't end, fails the test.
func TestCallsEndAtAllArguments(t *testing.T) {
	l := append(inOrder(), nans()...)
	for _, a := range l {
		for _, b := range l {
			Add(a, b)
			Order(a, b)
			Same(a, b)
			Parse(Text(a) + Text(b))
		}
		s := Text(a)
		for i := range s {
			Parse(s[:i])
			Parse(s[i:])
		}
	}
	for _, n := range []int{0, 1, 63, 64, 65, 1 << 20} {
		for _, s := range []string{"0", "9", "-", "+", ".", "e", "1e", " ", "\x00", "\xff"} {
			Parse(strings.Repeat(s, n))
		}
	}
}

// P2: the same arguments have the same answers, whatever was asked between.
func TestAnswersDependOnArgumentsAlone(t *testing.T) {
	l := append(inOrder(), nans()...)
	type answers struct {
		text     string
		bits     uint64
		parsed   uint64
		sum      uint64
		order    int
		e, fault api.Errno
	}
	ask := func(f float64) (a answers) {
		a.text, a.bits = Text(f), Bits(f)
		g, e := Parse(a.text)
		a.parsed, a.e = Bits(g), e
		g, e = Add(f, 1)
		a.sum, a.fault = Bits(g), e
		a.order = Order(f, 1)
		return a
	}
	first := make([]answers, len(l))
	for i, f := range l {
		first[i] = ask(f)
	}
	Parse("no number")
	for i := len(l) - 1; i >= 0; i-- {
		if again := ask(l[i]); again != first[i] {
			t.Errorf("%g: %v, then %v", l[i], first[i], again)
		}
	}
}
