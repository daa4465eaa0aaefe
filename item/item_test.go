package item

import (
	"maps"
	"math"
	"math/big"
	"math/rand"
	"slices"
	"strconv"
	"strings"
	"testing"

	"nearhand/api"
	"nearhand/real"
)

// The calls' signatures are part of what is promised.
var (
	_ func(api.Item) bool                                        = Right
	_ func(string, api.Item) int64                               = Cost
	_ func(api.Item, api.Item) bool                              = Same
	_ func(api.Item) api.Item                                    = Copy
	_ func(api.Item, int64) (api.Item, int64, api.Errno)         = Add
	_ func(api.Item, float64) (api.Item, string, api.Errno)      = AddReal
	_ func(api.Item, string) (api.Item, api.Errno)               = Append
	_ func(api.Item, string) (string, bool, api.Errno)           = Get
	_ func(api.Item, string, string) (api.Item, bool, api.Errno) = Put
	_ func(api.Item, string) (api.Item, bool, api.Errno)         = Drop
	_ struct{ Name, Text string }                                = api.Field{}
	_ struct {
		Kind   int
		Text   string
		Fields []api.Field
	} = api.Item{}
)

var (
	minus0 = math.Copysign(0, -1)
	inf    = math.Inf(1)
	below  = math.Inf(-1)
	nan    = math.NaN()
)

func text(s string) api.Item { return api.Item{Kind: api.TextItem, Text: s} }

// hash is a HashItem of those names and texts, in that order, with spare room
// behind them that tells if it is written to.
func hash(pairs ...string) api.Item {
	room := make([]api.Field, 0, len(pairs)/2+3)
	for i := 0; i < len(pairs); i += 2 {
		room = append(room, api.Field{Name: pairs[i], Text: pairs[i+1]})
	}
	fields := room
	for len(room) < cap(room) {
		room = append(room, api.Field{Name: "spare", Text: "room"})
	}
	return api.Item{Kind: api.HashItem, Fields: fields}
}

// wide is a HashItem of so many Fields, whose names have three digits.
func wide(n int) api.Item {
	var pairs []string
	for i := range n {
		pairs = append(pairs, name(i), "v"+name(i))
	}
	return hash(pairs...)
}

func name(i int) string { return strconv.Itoa(1000 + i)[1:] }

// long is a text of so many bytes.
func long(n int) string { return strings.Repeat("x", n) }

// brief is an item short enough to be told.
func brief(i api.Item) api.Item {
	i.Text = i.Text[:min(len(i.Text), 60)]
	i.Fields = slices.Clone(i.Fields[:min(len(i.Fields), 6)])
	for j, f := range i.Fields {
		i.Fields[j] = api.Field{Name: f.Name[:min(len(f.Name), 60)], Text: f.Text[:min(len(f.Text), 60)]}
	}
	return i
}

// same is told without the calls that are tested.
func same(a, b api.Item) bool {
	if a.Kind != b.Kind || a.Text != b.Text || len(a.Fields) != len(b.Fields) {
		return false
	}
	for i := range a.Fields {
		if a.Fields[i].Name != b.Fields[i].Name || a.Fields[i].Text != b.Fields[i].Text {
			return false
		}
	}
	return true
}

// roomOf is all of a list, with its spare room.
func roomOf(i api.Item) []api.Field { return i.Fields[:cap(i.Fields)] }

// apart: do two items share no memory but that of texts, spare room included?
func apart(a, b api.Item) bool { return !begins(roomOf(a), roomOf(b)) && !begins(roomOf(b), roomOf(a)) }

// begins: does one list begin within the other one?
func begins(a, b []api.Field) bool {
	for i := range b {
		if len(a) > 0 && &a[0] == &b[i] {
			return true
		}
	}
	return false
}

// guard fails the test, if the item is changed, with its spare room, by what
// is done, or if what that answers shares any memory with it.
func guard(t *testing.T, i api.Item, do func() api.Item) {
	t.Helper()
	ahead := slices.Clone(roomOf(i))
	got := do()
	if !slices.Equal(ahead, roomOf(i)) {
		t.Errorf("%+v was changed", brief(i))
	}
	if !apart(i, got) {
		t.Errorf("%+v shares memory with %+v", brief(got), brief(i))
	}
}

func TestErrorsKindsAndLimitsHaveTheirNumbers(t *testing.T) {
	if api.ErrKind != 91 || api.ErrNotWhole != 92 || api.ErrNotReal != 93 || api.ErrBig != 94 || api.ErrOver != 12 || api.ErrReal != 21 {
		t.Error(api.ErrKind, api.ErrNotWhole, api.ErrNotReal, api.ErrBig, api.ErrOver, api.ErrReal)
	}
	if api.TextItem != 1 || api.HashItem != 2 || api.MaxText != 4096 || api.MaxKey != 512 || api.MaxFields != 256 || api.KeyCost != 48 || api.FieldCost != 16 {
		t.Error(api.TextItem, api.HashItem, api.MaxText, api.MaxKey, api.MaxFields, api.KeyCost, api.FieldCost)
	}
}

// rights are items that can be.
func rights() []api.Item {
	return []api.Item{
		text(""), text("a"), text("5"), text("-0"), text("1.5"), text("\x00\r\n\xff"), text("ä"), text(long(4095)), text(long(4096)),
		{Kind: api.TextItem, Text: "a", Fields: []api.Field{}}, {Kind: api.TextItem, Fields: make([]api.Field, 0, 3)},
		hash("a", "b"), hash("", ""), hash("", "x", "a", ""), hash("a", "", "b", ""), hash("a", "5", "b", "5"),
		hash("A", "1", "a", "1"), hash("a", "1", "a\x00", "1", "aa", "1", "b", "1"), hash("10", "", "9", ""), hash("\x00", "", "z", "", "\x7f", "", "\x80", "", "ä", "", "\xff", "", "\xff\xff", ""),
		hash(long(512), long(4096)), hash(long(511), "", long(512), ""), hash("a", long(4096), "b", long(4096)),
		wide(1), wide(2), wide(255), wide(256),
	}
}

// P9.1
func TestRightOfItemsThatCanBe(t *testing.T) {
	for _, i := range rights() {
		if !Right(i) {
			t.Errorf("%+v", brief(i))
		}
	}
}

// wrongs are items that can't be.
func wrongs() []api.Item {
	l := []api.Item{
		{}, {Text: "a"}, {Fields: []api.Field{{Name: "a", Text: "b"}}}, {Fields: []api.Field{}},
		text(long(4097)), text(long(1 << 20)), {Kind: api.TextItem, Fields: []api.Field{{}}}, {Kind: api.TextItem, Text: "a", Fields: []api.Field{{Name: "a", Text: "b"}}},
		{Kind: api.HashItem}, {Kind: api.HashItem, Fields: []api.Field{}}, {Kind: api.HashItem, Text: "a"}, {Kind: api.HashItem, Text: "a", Fields: []api.Field{{Name: "a", Text: "b"}}},
		hash("a", "1", "a", "1"), hash("a", "1", "a", "2"), hash("", "", "", ""), hash("b", "", "a", ""), hash("a", "", "A", ""), hash("aa", "", "a", ""), hash("9", "", "10", ""), hash("\xff", "", "a", ""), hash("ä", "", "z", ""), hash("\x80", "", "\x7f", ""),
		hash("a", "", "c", "", "b", ""), hash("a", "", "b", "", "b", ""), hash("b", "", "a", "", "c", ""), hash("a", "", "b", "", "a", ""),
		hash(long(513), ""), hash("a", "", long(513), ""), hash("a", long(4097)), hash("a", long(4097), "b", ""), hash("a", "", "b", long(4097)),
		wide(257), wide(300),
	}
	for _, kind := range []int{0, 3, 4, -1, -2, 255, 257, 258, 1 + 1<<32, 2 + 1<<32, math.MaxInt, math.MinInt} {
		l = append(l, api.Item{Kind: kind}, api.Item{Kind: kind, Text: "5"}, api.Item{Kind: kind, Fields: wide(2).Fields})
	}
	for at := range 256 {
		long, twice := wide(256), wide(256)
		long.Fields[at].Text = strings.Repeat("v", 4097)
		twice.Fields[at].Name = name((at + 1) % 256)
		l = append(l, long, twice)
	}
	return l
}

// P9.1
func TestRightOfItemsThatCannotBe(t *testing.T) {
	for n, i := range wrongs() {
		if Right(i) {
			t.Errorf("%d: %+v", n, brief(i))
		}
	}
}

// P9.1
func TestCost(t *testing.T) {
	for _, c := range []struct {
		key  string
		i    api.Item
		cost int64
	}{
		{"k", text("1"), 57}, {"", text(""), 48}, {"", text("a"), 49}, {"k", text("abc"), 52}, {"key", text("hello"), 56}, {"ä", text("ä"), 52},
		{"", text("0"), 56}, {"", text("-1"), 56}, {"", text("12345678"), 56}, {"", text("123456789"), 56}, {"", text("9223372036854775807"), 56}, {"", text("-9223372036854775808"), 56},
		{"", text("9223372036854775808"), 67}, {"", text("-9223372036854775809"), 68}, {"", text("-0"), 50}, {"", text("+1"), 50}, {"", text("01"), 50}, {"", text("1 "), 50}, {"", text("1.0"), 51}, {"", text("1e3"), 51}, {"", text("inf"), 51}, {"", text("-"), 49}, {"", text("00"), 50}, {"", text(strings.Repeat("1", 20)), 68}, {"", text(strings.Repeat("1", 4096)), 4144},
		{"", text(long(4096)), 4144}, {long(512), text(long(4096)), 4656}, {long(5000), text(""), 5048}, {long(7), text("7"), 63}, {"1", text("a"), 50}, {"123456789", text("a"), 58},
		{"", hash("a", "b"), 66}, {"key", hash("a", "b"), 69}, {"", hash("", ""), 64}, {"", hash("a", "12345"), 70}, {"", hash("1", "1"), 66}, {"k", hash("a", "vvv", "b", "", "c", "vv"), 105}, {"", hash(long(512), long(4096)), 4672},
		{"", wide(256), 48 + 256*(16+3+4)}, {long(512), wide(256), 512 + 48 + 256*(16+3+4)},
		{"", api.Item{}, 48}, {"k", api.Item{}, 49},
	} {
		if n := Cost(c.key, c.i); n != c.cost {
			t.Errorf("Cost of a key of %d bytes, %+v = %d, not %d", len(c.key), brief(c.i), n, c.cost)
		}
	}
	most := wide(256)
	for i := range most.Fields {
		most.Fields[i] = api.Field{Name: long(509) + name(i), Text: long(4096)}
	}
	if n := Cost(long(512), most); !Right(most) || n != 512+48+256*(16+512+4096) {
		t.Error(n)
	}
}

// P9.1: each text of digits counts 8 where it is a number's own text, and its bytes where it isn't.
func TestCostOfDigits(t *testing.T) {
	for n := 1; n <= 30; n++ {
		for _, s := range []string{strings.Repeat("1", n), strings.Repeat("9", n), strings.Repeat("0", n), "-" + strings.Repeat("9", n), "-" + strings.Repeat("0", n), strings.Repeat("1", n) + "x"} {
			want := int64(len(s))
			if v, ok := new(big.Int).SetString(s, 10); ok && v.IsInt64() && v.String() == s {
				want = 8
			}
			if c := Cost("", text(s)); c != 48+want {
				t.Errorf("%q: %d, not %d", s, c, 48+want)
			}
			if c := Cost("", hash(s, s)); c != 64+int64(2*len(s)) {
				t.Errorf("a field of %q: %d", s, c)
			}
		}
	}
}

// changed are items each of which differs in one thing.
func changed(i api.Item) []api.Item {
	var l []api.Item
	for _, d := range []int{1, -1, 256, 1 << 32} {
		l = append(l, api.Item{Kind: i.Kind + d, Text: i.Text, Fields: i.Fields})
	}
	for _, s := range []string{i.Text + "x", "x" + i.Text, i.Text + "\x00"} {
		l = append(l, api.Item{Kind: i.Kind, Text: s, Fields: i.Fields})
	}
	for at := range i.Fields {
		for _, f := range []api.Field{{Name: i.Fields[at].Name + "x", Text: i.Fields[at].Text}, {Name: i.Fields[at].Name, Text: i.Fields[at].Text + "x"}, {Name: i.Fields[at].Name + i.Fields[at].Text + "y"}} {
			fields := slices.Clone(i.Fields)
			fields[at] = f
			l = append(l, api.Item{Kind: i.Kind, Text: i.Text, Fields: fields})
		}
		l = append(l, api.Item{Kind: i.Kind, Text: i.Text, Fields: slices.Delete(slices.Clone(i.Fields), at, at+1)})
		if at > 0 && i.Fields[at] != i.Fields[at-1] {
			fields := slices.Clone(i.Fields)
			fields[at], fields[at-1] = fields[at-1], fields[at]
			l = append(l, api.Item{Kind: i.Kind, Text: i.Text, Fields: fields})
		}
	}
	return append(l, api.Item{Kind: i.Kind, Text: i.Text, Fields: append(slices.Clone(i.Fields), api.Field{})})
}

// P9.1: of any items, also of those that can't be.
func TestSame(t *testing.T) {
	for _, i := range slices.Concat(rights(), wrongs()[:40]) {
		again := api.Item{Kind: i.Kind, Text: strings.Clone(i.Text), Fields: slices.Clone(i.Fields)}
		if !Same(i, i) || !Same(i, again) || !Same(again, i) {
			t.Errorf("%+v isn't the same", brief(i))
		}
		for n, c := range changed(i) {
			if Same(i, c) || Same(c, i) {
				t.Errorf("%d: %+v, %+v", n, brief(i), brief(c))
			}
		}
	}
	l := rights()
	for i, a := range l {
		for j, b := range l {
			if Same(a, b) != same(a, b) {
				t.Errorf("%d, %d: %v", i, j, Same(a, b))
			}
		}
	}
}

// P9.1: a list that is nil and an empty one are one.
func TestSameOfNilAndEmpty(t *testing.T) {
	for _, kind := range []int{0, 1, 2, 3} {
		l := []api.Item{{Kind: kind}, {Kind: kind, Fields: []api.Field{}}, {Kind: kind, Fields: make([]api.Field, 0, 5)}, {Kind: kind, Fields: wide(3).Fields[:0]}}
		for i, a := range l {
			for j, b := range l {
				if !Same(a, b) {
					t.Error(kind, i, j)
				}
			}
		}
	}
}

// P9.1: of any items.
func TestCopy(t *testing.T) {
	l := slices.Concat(rights(), wrongs())
	for _, n := range []int{0, 1, 5, 256, 5000} {
		l = append(l, wide(min(n, 999)), api.Item{Kind: -7, Text: long(5000), Fields: make([]api.Field, n, 2*n+4)})
	}
	for n, i := range l {
		guard(t, i, func() api.Item {
			c := Copy(i)
			if !same(c, i) {
				t.Errorf("%d: %+v, not %+v", n, brief(c), brief(i))
			}
			return c
		})
		if !apart(Copy(i), Copy(i)) {
			t.Errorf("%d: two copies share memory", n)
		}
	}
}

// P9.1: what is done to a copy isn't done to the item, and the other way round.
func TestCopyIsItsOwn(t *testing.T) {
	i := hash("a", "1", "b", "2")
	c := Copy(i)
	i.Fields[0] = api.Field{Name: "x", Text: "y"}
	c.Fields[1].Text = "z"
	if !same(c, hash("a", "1", "b", "z")) || !same(i, hash("x", "y", "b", "2")) {
		t.Error(c, i)
	}
}

// P9.2
func TestAdd(t *testing.T) {
	const most, least = math.MaxInt64, math.MinInt64
	for _, c := range []struct {
		i    api.Item
		n    int64
		want string
		e    api.Errno
	}{
		{api.Item{}, 0, "0", 0}, {api.Item{}, 5, "5", 0}, {api.Item{}, -5, "-5", 0}, {api.Item{}, most, "9223372036854775807", 0}, {api.Item{}, least, "-9223372036854775808", 0}, {api.Item{Fields: []api.Field{}}, 1, "1", 0},
		{text("0"), 0, "0", 0}, {text("5"), 0, "5", 0}, {text("41"), 1, "42", 0}, {text("-7"), 2, "-5", 0}, {text("1"), -1, "0", 0}, {text("9"), 1, "10", 0}, {text("-1"), 2, "1", 0},
		{text("9223372036854775806"), 1, "9223372036854775807", 0}, {text("-9223372036854775807"), -1, "-9223372036854775808", 0}, {text("9223372036854775807"), least, "-1", 0}, {text("-9223372036854775808"), most, "-1", 0},
		{text("9223372036854775807"), 0, "9223372036854775807", 0}, {text("-9223372036854775808"), 0, "-9223372036854775808", 0},
		{text("9223372036854775807"), 1, "", api.ErrOver}, {text("-9223372036854775808"), -1, "", api.ErrOver}, {text("1"), most, "", api.ErrOver}, {text("-1"), least, "", api.ErrOver}, {text("9223372036854775807"), most, "", api.ErrOver}, {text("-9223372036854775808"), least, "", api.ErrOver}, {text("4611686018427387904"), 1 << 62, "", api.ErrOver},
		{text(""), 1, "", api.ErrNotWhole}, {text("x"), 1, "", api.ErrNotWhole}, {text("1.5"), 1, "", api.ErrNotWhole}, {text("1.0"), 1, "", api.ErrNotWhole}, {text("1e3"), 1, "", api.ErrNotWhole}, {text("-0"), 1, "", api.ErrNotWhole}, {text("+1"), 1, "", api.ErrNotWhole}, {text("01"), 1, "", api.ErrNotWhole}, {text(" 1"), 1, "", api.ErrNotWhole}, {text("1\n"), 1, "", api.ErrNotWhole}, {text("-"), 1, "", api.ErrNotWhole}, {text("inf"), 1, "", api.ErrNotWhole}, {text("9223372036854775808"), 1, "", api.ErrNotWhole}, {text("9223372036854775808"), -1, "", api.ErrNotWhole}, {text("x"), most, "", api.ErrNotWhole}, {text(strings.Repeat("1", 4096)), 0, "", api.ErrNotWhole}, {text(strings.Repeat("0", 4096)), 0, "", api.ErrNotWhole},
		{hash("a", "1"), 1, "", api.ErrKind}, {hash("", ""), 0, "", api.ErrKind}, {wide(256), most, "", api.ErrKind},
	} {
		guard(t, c.i, func() api.Item {
			want, sum := c.i, int64(0)
			if c.e == api.OK {
				want = text(c.want)
				sum, _ = strconv.ParseInt(c.want, 10, 64)
			}
			i, n, e := Add(c.i, c.n)
			if !same(i, want) || n != sum || e != c.e {
				t.Errorf("Add(%+v, %d) = %+v, %d, %d", brief(c.i), c.n, brief(i), n, e)
			}
			return i
		})
	}
}

// P9.2
func TestAddOfManyNumbers(t *testing.T) {
	r := rand.New(rand.NewSource(9))
	for range 20000 {
		a, b := int64(r.Uint64())>>r.Intn(64), int64(r.Uint64())>>r.Intn(64)
		sum := new(big.Int).Add(big.NewInt(a), big.NewInt(b))
		want, number, fault := text(sum.String()), sum.Int64(), api.OK
		if !sum.IsInt64() {
			want, number, fault = text(strconv.FormatInt(a, 10)), 0, api.ErrOver
		}
		i, n, e := Add(text(strconv.FormatInt(a, 10)), b)
		if !same(i, want) || n != number || e != fault {
			t.Errorf("Add(%d, %d) = %+v, %d, %d", a, b, i, n, e)
		}
	}
}

// P9.2
func TestAddReal(t *testing.T) {
	for _, c := range []struct {
		i    api.Item
		f    float64
		want string
		e    api.Errno
	}{
		{api.Item{}, 0.5, "0.5", 0}, {api.Item{}, 0, "0", 0}, {api.Item{}, minus0, "0", 0}, {api.Item{}, -3, "-3", 0}, {api.Item{}, 1e21, "1e+21", 0}, {api.Item{}, math.MaxFloat64, "1.7976931348623157e+308", 0}, {api.Item{}, math.SmallestNonzeroFloat64, "5e-324", 0},
		{text("0.1"), 0.2, "0.30000000000000004", 0}, {text("1"), 2, "3", 0}, {text("10"), 0.5, "10.5", 0}, {text("10"), 1e21, "1e+21", 0}, {text("-0"), minus0, "-0", 0}, {text("-0"), 0, "0", 0}, {text("1.5"), -1.5, "0", 0}, {text("-1.5"), 1.5, "0", 0}, {text("5"), 0, "5", 0},
		{text("007"), 1, "8", 0}, {text("1.0"), 0, "1", 0}, {text("1e3"), 0, "1000", 0}, {text("5.0e3"), 200, "5200", 0}, {text("1e-7"), 0, "1e-07", 0}, {text("9007199254740992"), 1, "9007199254740992", 0}, {text("9223372036854775808"), 0, "9223372036854776000", 0}, {text("1" + strings.Repeat("0", 63)), 0, "1e+63", 0}, {text("1e-400"), 1, "1", 0},
		{text("1.7e308"), -1e308, "6.999999999999999e+307", 0}, {text("1.7976931348623157e308"), 1, "1.7976931348623157e+308", 0}, {text("-1.7976931348623157e308"), math.MaxFloat64, "0", 0},
		{text("1.7e308"), 1e308, "", api.ErrReal}, {text("-1.7e308"), -1e308, "", api.ErrReal}, {text("1.7976931348623157e308"), math.MaxFloat64, "", api.ErrReal},
		{text("1"), inf, "", api.ErrReal}, {text("1"), below, "", api.ErrReal}, {text("1"), nan, "", api.ErrReal}, {text("-1.7e308"), inf, "", api.ErrReal}, {text("0"), math.Float64frombits(0xFFF0000000000001), "", api.ErrReal}, {api.Item{}, inf, "", api.ErrReal}, {api.Item{}, below, "", api.ErrReal}, {api.Item{}, nan, "", api.ErrReal},
		{text("inf"), 1, "", api.ErrNotReal}, {text("-inf"), 1, "", api.ErrNotReal}, {text("nan"), 1, "", api.ErrNotReal}, {text("inf"), inf, "", api.ErrNotReal}, {text("inf"), below, "", api.ErrNotReal}, {text("-inf"), nan, "", api.ErrNotReal}, {text("nan"), nan, "", api.ErrNotReal}, {text("x"), nan, "", api.ErrNotReal},
		{text(""), 1, "", api.ErrNotReal}, {text("x"), 1, "", api.ErrNotReal}, {text("+1"), 1, "", api.ErrNotReal}, {text(".5"), 1, "", api.ErrNotReal}, {text("5."), 1, "", api.ErrNotReal}, {text("1E3"), 1, "", api.ErrNotReal}, {text(" 1"), 1, "", api.ErrNotReal}, {text("1 "), 1, "", api.ErrNotReal}, {text("0x1p3"), 1, "", api.ErrNotReal}, {text("Inf"), 1, "", api.ErrNotReal}, {text("1e309"), 1, "", api.ErrNotReal}, {text("-1e309"), 1, "", api.ErrNotReal}, {text(strings.Repeat("0", 64) + "1"), 1, "", api.ErrNotReal}, {text(strings.Repeat("1", 4096)), 1, "", api.ErrNotReal},
		{hash("a", "1"), 1, "", api.ErrKind}, {hash("a", "1"), nan, "", api.ErrKind}, {wide(256), inf, "", api.ErrKind},
	} {
		guard(t, c.i, func() api.Item {
			want := c.i
			if c.e == api.OK {
				want = text(c.want)
			}
			i, s, e := AddReal(c.i, c.f)
			if !same(i, want) || s != c.want || e != c.e {
				t.Errorf("AddReal(%+v, %g) = %+v, %q, %d", brief(c.i), c.f, brief(i), s, e)
			}
			return i
		})
	}
}

// P9.2: many sums, by what layer 2 answers.
func TestAddRealOfManyNumbers(t *testing.T) {
	r := rand.New(rand.NewSource(10))
	for range 20000 {
		a, b := math.Float64frombits(r.Uint64()), math.Float64frombits(r.Uint64())
		if r.Intn(2) == 0 {
			a, b = float64(r.Intn(2000)-1000)/8, float64(r.Intn(2000)-1000)/10
		}
		old := text(real.Text(a))
		want, number, fault := old, "", api.ErrNotReal
		if sum, e := real.Add(a, b); !math.IsInf(a, 0) && !math.IsNaN(a) {
			if fault = e; e == api.OK {
				number = real.Text(sum)
				want = text(number)
			}
		}
		i, s, e := AddReal(old, b)
		if !same(i, want) || s != number || e != fault {
			t.Errorf("AddReal(%g, %g) = %+v, %q, %d", a, b, i, s, e)
		}
	}
}

// P9.2
func TestAppend(t *testing.T) {
	for _, c := range []struct {
		i    api.Item
		s    string
		want string
		e    api.Errno
	}{
		{api.Item{}, "", "", 0}, {api.Item{}, "a", "a", 0}, {api.Item{Fields: []api.Field{}}, "a\x00\xff", "a\x00\xff", 0}, {api.Item{}, long(4096), long(4096), 0},
		{text(""), "", "", 0}, {text(""), "a", "a", 0}, {text("a"), "", "a", 0}, {text("a"), "b", "ab", 0}, {text("1"), "1", "11", 0}, {text("\r"), "\n", "\r\n", 0}, {text("ab"), "ab", "abab", 0}, {text("\xc3"), "\xa4", "ä", 0},
		{text("b"), long(4095), "b" + long(4095), 0}, {text(long(4095)), "b", long(4095) + "b", 0}, {text(long(4096)), "", long(4096), 0}, {text(long(2048)), long(2048), long(4096), 0},
		{api.Item{}, long(4097), "", api.ErrBig}, {text(""), long(4097), "", api.ErrBig}, {text("b"), long(4096), "", api.ErrBig}, {text(long(4096)), "b", "", api.ErrBig}, {text(long(2048)), long(2049), "", api.ErrBig}, {text(long(4096)), long(4096), "", api.ErrBig}, {text("b"), long(1 << 20), "", api.ErrBig},
		{hash("a", "1"), "x", "", api.ErrKind}, {hash("a", "1"), "", "", api.ErrKind}, {hash("a", "1"), long(4097), "", api.ErrKind}, {wide(256), "x", "", api.ErrKind},
	} {
		guard(t, c.i, func() api.Item {
			want := c.i
			if c.e == api.OK {
				want = text(c.want)
			}
			i, e := Append(c.i, c.s)
			if !same(i, want) || e != c.e {
				t.Errorf("Append(%+v, %.60q) = %+v, %d", brief(c.i), c.s, brief(i), e)
			}
			return i
		})
	}
}

// P9.3
func TestGet(t *testing.T) {
	h := hash("", "of none", "A", "", "a", "1", "aa", "2", "b", "a", "\xff", "3")
	all := map[string]string{"": "of none", "A": "", "a": "1", "aa": "2", "b": "a", "\xff": "3"}
	for _, name := range []string{"", "A", "a", "aa", "b", "\xff", "\x00", "B", "a\x00", "aaa", "ab", "c", "1", "2", "of none", "\xfe", "\xff\x00", "spare", long(512), long(513), long(1 << 20)} {
		guard(t, h, func() api.Item {
			want, there := all[name]
			if s, ok, e := Get(h, name); s != want || ok != there || e != api.OK {
				t.Errorf("Get(%.60q) = %q, %v, %d", name, s, ok, e)
			}
			return api.Item{}
		})
		if s, ok, e := Get(api.Item{}, name); s != "" || ok || e != api.OK {
			t.Errorf("Get of none, %.60q: %q, %v, %d", name, s, ok, e)
		}
		for _, i := range []api.Item{text(""), text(name[:min(len(name), 4096)]), text("5")} {
			if s, ok, e := Get(i, name); s != "" || ok || e != api.ErrKind {
				t.Errorf("Get(%+v, %.60q) = %q, %v, %d", brief(i), name, s, ok, e)
			}
		}
	}
	if s, ok, e := Get(api.Item{Fields: []api.Field{}}, "a"); s != "" || ok || e != api.OK {
		t.Error(s, ok, e)
	}
}

// P9.3: each field of the most that there may be, and those between them.
func TestGetOfManyFields(t *testing.T) {
	for _, n := range []int{1, 2, 3, 4, 7, 8, 255, 256} {
		h := wide(n)
		for i := range n {
			if s, ok, e := Get(h, name(i)); s != "v"+name(i) || !ok || e != api.OK {
				t.Errorf("%d of %d: %q, %v, %d", i, n, s, ok, e)
			}
			if s, ok, e := Get(h, name(i)+"x"); s != "" || ok || e != api.OK {
				t.Errorf("behind %d of %d: %q, %v, %d", i, n, s, ok, e)
			}
		}
	}
}

// put asks for a Put and for what it must answer.
func put(t *testing.T, i api.Item, name, s string, want api.Item, fresh bool, fault api.Errno) {
	t.Helper()
	guard(t, i, func() api.Item {
		got, ok, e := Put(i, name, s)
		if !same(got, want) || ok != fresh || e != fault {
			t.Errorf("Put(%+v, %.60q, %.60q) = %+v, %v, %d", brief(i), name, s, brief(got), ok, e)
		}
		return got
	})
}

// P9.3
func TestPut(t *testing.T) {
	put(t, api.Item{}, "a", "1", hash("a", "1"), true, 0)
	put(t, api.Item{}, "", "", hash("", ""), true, 0)
	put(t, api.Item{Fields: []api.Field{}}, "a", "", hash("a", ""), true, 0)
	h := hash("b", "1", "d", "2")
	put(t, h, "a", "x", hash("a", "x", "b", "1", "d", "2"), true, 0)
	put(t, h, "", "x", hash("", "x", "b", "1", "d", "2"), true, 0)
	put(t, h, "B", "x", hash("B", "x", "b", "1", "d", "2"), true, 0)
	put(t, h, "bb", "x", hash("b", "1", "bb", "x", "d", "2"), true, 0)
	put(t, h, "c", "", hash("b", "1", "c", "", "d", "2"), true, 0)
	put(t, h, "d\x00", "x", hash("b", "1", "d", "2", "d\x00", "x"), true, 0)
	put(t, h, "\xff", "x", hash("b", "1", "d", "2", "\xff", "x"), true, 0)
	put(t, h, "b", "x", hash("b", "x", "d", "2"), false, 0)
	put(t, h, "d", "", hash("b", "1", "d", ""), false, 0)
	put(t, h, "b", "1", h, false, 0)
	put(t, h, "1", "b", hash("1", "b", "b", "1", "d", "2"), true, 0)
}

// P9.3
func TestPutOfAnotherKind(t *testing.T) {
	for _, i := range []api.Item{text(""), text("a"), text("5"), text(long(4096)), {Kind: api.TextItem, Fields: []api.Field{}}} {
		put(t, i, "a", "b", i, false, api.ErrKind)
		put(t, i, "", "", i, false, api.ErrKind)
		put(t, i, long(513), long(4097), i, false, api.ErrKind)
	}
}

// P9.3
func TestPutOfWhatIsTooLong(t *testing.T) {
	for _, h := range []api.Item{{}, hash("b", "1"), wide(255), wide(256)} {
		put(t, h, long(513), "", h, false, api.ErrBig)
		put(t, h, long(1<<20), "", h, false, api.ErrBig)
		put(t, h, "b", long(4097), h, false, api.ErrBig)
		put(t, h, name(0), long(4097), h, false, api.ErrBig)
		put(t, h, "zz", long(1<<20), h, false, api.ErrBig)
		put(t, h, long(513), long(4097), h, false, api.ErrBig)
	}
	put(t, api.Item{}, long(512), long(4096), hash(long(512), long(4096)), true, 0)
	put(t, hash("b", "1"), long(512), long(4096), hash("b", "1", long(512), long(4096)), true, 0)
	put(t, hash("b", "1"), "b", long(4096), hash("b", long(4096)), false, 0)
}

// P9.3: a field that is there may have another text, however many there are.
func TestPutOfTooMany(t *testing.T) {
	put(t, wide(255), name(255), "v255", wide(256), true, 0)
	full := wide(256)
	for _, s := range []string{"", "a", name(0) + "x", name(255) + "x", name(256), "\xff"} {
		put(t, full, s, "x", full, false, api.ErrBig)
	}
	for i := range 256 {
		want := Copy(full)
		want.Fields[i].Text = "new"
		put(t, full, name(i), "new", want, false, 0)
	}
}

// drop asks for a Drop and for what it must answer.
func drop(t *testing.T, i api.Item, name string, want api.Item, was bool, fault api.Errno) {
	t.Helper()
	guard(t, i, func() api.Item {
		got, ok, e := Drop(i, name)
		if !same(got, want) || ok != was || e != fault {
			t.Errorf("Drop(%+v, %.60q) = %+v, %v, %d", brief(i), name, brief(got), ok, e)
		}
		return got
	})
}

// P9.3
func TestDrop(t *testing.T) {
	h := hash("", "0", "b", "1", "d", "2")
	drop(t, h, "", hash("b", "1", "d", "2"), true, 0)
	drop(t, h, "b", hash("", "0", "d", "2"), true, 0)
	drop(t, h, "d", hash("", "0", "b", "1"), true, 0)
	for _, s := range []string{"a", "B", "bb", "c", "e", "\xff", "1", "spare", long(512), long(513), long(1 << 20)} {
		drop(t, h, s, h, false, 0)
		drop(t, hash("x", "1"), s, hash("x", "1"), false, 0)
		drop(t, api.Item{}, s, api.Item{}, false, 0)
		drop(t, text("5"), s, text("5"), false, api.ErrKind)
	}
	drop(t, hash("a", "1"), "a", api.Item{}, true, 0)
	drop(t, hash("", ""), "", api.Item{}, true, 0)
	drop(t, api.Item{}, "", api.Item{}, false, 0)
	drop(t, api.Item{Fields: []api.Field{}}, "a", api.Item{}, false, 0)
	drop(t, text(""), "", text(""), false, api.ErrKind)
	full := wide(256)
	for i := range 256 {
		want := Copy(full)
		want.Fields = slices.Delete(want.Fields, i, i+1)
		drop(t, full, name(i), want, true, 0)
	}
}

// plain is what a hash has, by a map.
func plain(fields map[string]string) api.Item {
	var pairs []string
	for _, name := range slices.Sorted(maps.Keys(fields)) {
		pairs = append(pairs, name, fields[name])
	}
	if len(pairs) == 0 {
		return api.Item{}
	}
	return hash(pairs...)
}

// P9.3: many calls, held against a map.
func TestManyCalls(t *testing.T) {
	for seed := range int64(40) {
		r := rand.New(rand.NewSource(seed))
		names, fields, i := 3+r.Intn(400), map[string]string{}, api.Item{}
		for range 600 {
			key, s := strconv.FormatInt(int64(r.Intn(names)), 2), strconv.Itoa(r.Intn(1000))
			old, there := fields[key]
			if text, ok, e := Get(i, key); text != old || ok != there || e != api.OK {
				t.Fatalf("%d: Get(%q) = %q, %v, %d", seed, key, text, ok, e)
			}
			if r.Intn(3) > 0 {
				next, fresh, e := Put(i, key, s)
				if !there && len(fields) == 256 {
					if !same(next, i) || fresh || e != api.ErrBig {
						t.Fatalf("%d: Put(%q) of one too many: %v, %d", seed, key, fresh, e)
					}
					continue
				}
				fields[key] = s
				if fresh == there || e != api.OK {
					t.Fatalf("%d: Put(%q) = %v, %d", seed, key, fresh, e)
				}
				i = next
			} else {
				next, was, e := Drop(i, key)
				delete(fields, key)
				if was != there || e != api.OK {
					t.Fatalf("%d: Drop(%q) = %v, %d", seed, key, was, e)
				}
				i = next
			}
			if !same(i, plain(fields)) || Right(i) != (len(fields) > 0) {
				t.Fatalf("%d: %+v, not %+v", seed, brief(i), brief(plain(fields)))
			}
		}
	}
}

// P9.2, P9.3: what is made of a RIGHT item, or of none, is RIGHT, or none.
func TestAnswersAreRight(t *testing.T) {
	for _, i := range append(rights(), api.Item{}) {
		for n, got := range answered(i) {
			if !Right(got) && !same(got, api.Item{}) {
				t.Errorf("%d of %+v: %+v", n, brief(i), brief(got))
			}
		}
	}
}

// answered are the items that the calls answer of one.
func answered(i api.Item) []api.Item {
	l := []api.Item{Copy(i)}
	for _, n := range []int64{0, 1, -1, math.MaxInt64, math.MinInt64} {
		got, _, _ := Add(i, n)
		l = append(l, got)
	}
	for _, f := range []float64{0, 1.5, -1e308, math.MaxFloat64, inf, below, nan} {
		got, _, _ := AddReal(i, f)
		l = append(l, got)
	}
	for _, s := range []string{"", "a", "5", "000", name(128), "\xff", long(512), long(513), long(4096), long(4097)} {
		got, _ := Append(i, s)
		put, _, _ := Put(i, s, s)
		other, _, _ := Put(i, "a", s)
		drop, _, _ := Drop(i, s)
		l = append(l, got, put, other, drop)
	}
	return l
}

// P1: a panic at any of these arguments, or a call that doesn't end, fails the test.
func TestCallsEndAtAllArguments(t *testing.T) {
	for _, i := range slices.Concat(rights(), wrongs(), []api.Item{{Kind: api.HashItem, Fields: make([]api.Field, 1<<15)}, {Kind: api.TextItem, Text: long(1 << 22)}}) {
		Right(i)
		Same(i, wide(3))
		Same(wide(3), i)
		Cost(long(5000), i)
		for n, got := range answered(i) {
			if !apart(i, got) {
				t.Errorf("%d of %+v shares its memory", n, brief(i))
			}
		}
		for _, s := range []string{"", "a", "000", "\xff", long(513)} {
			Get(i, s)
		}
	}
}

// P2: the same arguments have the same answers, whatever was asked between, and
// no two answers share any memory.
func TestAnswersDependOnArgumentsAlone(t *testing.T) {
	l := append(rights(), api.Item{})
	first := make([][]api.Item, len(l))
	for n, i := range l {
		first[n] = answered(i)
	}
	for n, i := range slices.Backward(l) {
		again := answered(i)
		for j := range again {
			if !same(first[n][j], again[j]) || !apart(first[n][j], again[j]) || !apart(i, again[j]) {
				t.Errorf("%d, %d: %+v, then %+v", n, j, brief(first[n][j]), brief(again[j]))
			}
		}
	}
}

// What is answered isn't changed by what is done to the item behind the call.
func TestAnswersAreNew(t *testing.T) {
	for n := range answered(hash("a", "1", "b", "2")) {
		i := hash("a", "1", "b", "2")
		got := answered(i)[n]
		want := api.Item{Kind: got.Kind, Text: got.Text, Fields: slices.Clone(got.Fields)}
		for j := range roomOf(i) {
			roomOf(i)[j] = api.Field{Name: "written", Text: "over"}
		}
		if !same(got, want) {
			t.Errorf("%d: %+v, not %+v", n, got, want)
		}
	}
}
