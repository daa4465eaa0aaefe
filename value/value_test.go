package value

import (
	"math"
	"math/rand"
	"slices"
	"strings"
	"testing"

	"nearhand/api"
)

// The calls' signatures are part of what is promised.
var (
	_ func(api.Value) api.Errno       = Check
	_ func(api.Value) int             = Depth
	_ func(api.Value) int             = Count
	_ func(api.Value, api.Value) bool = Same
	_ func(api.Value) api.Value       = Copy
	_ func(string) api.Value          = Text
	_ func(int64) api.Value           = Int
	_ func(...api.Value) api.Value    = List
	_ func(string) api.Value          = Fail
	_ func() api.Value                = Ok
	_ func() api.Value                = Nil
)

var (
	minus0 = math.Copysign(0, -1)
	nan    = math.NaN()
)

// textKinds, listKinds and all fourteen Kinds.
var (
	textKinds = []int{api.Simple, api.Error, api.Bulk, api.Big, api.Blob, api.Verbatim}
	listKinds = []int{api.Array, api.Map, api.Set, api.Push}
	allKinds  = []int{1, 2, 3, 4, 5, 6, 7, 8, 9, 10, 11, 12, 13, 14}
	noKinds   = []int{0, 15, 16, 255, 256, 261, -1, -4, 4 + 1<<32, math.MaxInt, math.MinInt}
)

// of is a value of a Kind with that List.
func of(kind int, l ...api.Value) api.Value { return api.Value{Kind: kind, List: l} }

// text is a value of a Kind with that Text.
func text(kind int, s string) api.Value { return api.Value{Kind: kind, Text: s} }

// times is that value so many times.
func times(n int, v api.Value) []api.Value {
	l := make([]api.Value, n)
	for i := range l {
		l[i] = v
	}
	return l
}

// nested is so many Lists of that Kind around a value.
func nested(n, kind int, v api.Value) api.Value {
	for range n {
		v = of(kind, v)
		if kind == api.Map {
			v.List = append(v.List, Nil())
		}
	}
	return v
}

// plain is a right value of each Kind, with as little as there may be.
func plain(kind int) api.Value {
	switch kind {
	case api.Big:
		return text(kind, "0")
	case api.Verbatim:
		return text(kind, "txt:")
	case api.Push:
		return of(kind, Nil())
	}
	return api.Value{Kind: kind}
}

func check(t *testing.T, want api.Errno, l ...api.Value) {
	t.Helper()
	for i, v := range l {
		if e := Check(v); e != want {
			if len(v.Text) > 50 {
				v.Text = v.Text[:50] + "..."
			}
			if len(v.List) > 5 {
				v.List = v.List[:5]
			}
			t.Errorf("%d: Check(%+v) = %d, not %d", i, v, e, want)
		}
	}
}

func TestErrorsKindsAndLimitsHaveTheirNumbers(t *testing.T) {
	kinds := []int{api.Simple, api.Error, api.Whole, api.Bulk, api.Array, api.Null, api.Real, api.Bool, api.Big, api.Blob, api.Verbatim, api.Map, api.Set, api.Push}
	if api.ErrValue != 31 || api.MaxText != 4096 || api.MaxDepth != 8 || api.MaxItems != 1000 || !slices.Equal(kinds, allKinds) {
		t.Error(api.ErrValue, api.MaxText, api.MaxDepth, api.MaxItems, kinds)
	}
}

// P3.1
func TestCheckOfRightValues(t *testing.T) {
	for _, kind := range allKinds {
		check(t, api.OK, plain(kind))
	}
	check(t, api.OK,
		Text(""), Text("a"), Text("\r\n"), Text("\x00\xff"), Text("ä"),
		text(api.Simple, "OK"), text(api.Simple, "a b\tc\x00\xff\x0b\x0c"), text(api.Error, "ERR no"), text(api.Error, "\\r\\n"),
		text(api.Blob, "\r\n"), text(api.Blob, "a\nb"),
		Int(0), Int(1), Int(-5), Int(math.MaxInt64), Int(math.MinInt64),
		api.Value{Kind: api.Bool, Flag: true}, api.Value{Kind: api.Bool, Flag: false},
		List(), List(Nil()), List(Text("a"), Int(1), Nil()), of(api.Set, Int(1), Int(1)), of(api.Map, Text("k"), Int(1)), of(api.Map, Nil(), Nil(), Nil(), Nil()),
		of(api.Push, Text("invalidate"), List(Text("k"))), of(api.Push, Nil()), of(api.Push, List()), of(api.Array, of(api.Set), of(api.Map), List()))
	for _, f := range []float64{0, minus0, 1.5, -1e300, math.SmallestNonzeroFloat64, math.Inf(1), math.Inf(-1), nan, math.Float64frombits(0xFFF8000000000123)} {
		check(t, api.OK, api.Value{Kind: api.Real, Real: f}, List(api.Value{Kind: api.Real, Real: f}))
	}
}

// P3.1: one field at a time, of each Kind, where it belongs and where it doesn't.
func TestCheckOfFieldsThatAKindHasNot(t *testing.T) {
	for _, kind := range allKinds {
		ask := func(own bool, set func(v *api.Value)) {
			t.Helper()
			v, want := plain(kind), api.ErrValue
			if own {
				want = api.OK
			}
			set(&v)
			check(t, want, v, List(Nil(), v))
		}
		if kind == api.Push {
			ask = func(own bool, set func(v *api.Value)) {
				v := plain(kind)
				set(&v)
				if (Check(v) == api.OK) != own {
					t.Errorf("%+v", v)
				}
			}
		}
		for _, n := range []int64{1, -1, math.MaxInt64, math.MinInt64, 1 << 32} {
			ask(kind == api.Whole, func(v *api.Value) { v.Int = n })
		}
		for _, f := range []float64{1, -1, minus0, nan, math.Inf(1), math.Inf(-1), math.SmallestNonzeroFloat64, math.Float64frombits(0xFFF8000000000001)} {
			ask(kind == api.Real, func(v *api.Value) { v.Real = f })
		}
		ask(kind == api.Bool, func(v *api.Value) { v.Flag = true })
		ask(slices.Contains(listKinds, kind), func(v *api.Value) { v.List = []api.Value{Nil(), Nil()} })
		if !slices.Contains(textKinds, kind) {
			for _, s := range []string{"1", "\x00", " ", "txt:"} {
				ask(false, func(v *api.Value) { v.Text = s })
			}
		}
		ask(true, func(v *api.Value) {
			if len(v.List) == 0 {
				v.List = make([]api.Value, 0, 3)
			}
		})
	}
}

// P3.1
func TestCheckOfNoKinds(t *testing.T) {
	for _, kind := range noKinds {
		v := api.Value{Kind: kind}
		check(t, api.ErrValue, v, List(v), of(api.Push, v), text(kind, "a"), of(kind, Nil()), of(kind, Nil(), Nil()), api.Value{Kind: kind, Int: 1}, api.Value{Kind: kind, Real: 1}, api.Value{Kind: kind, Flag: true})
	}
}

// P3.1
func TestCheckOfLongTexts(t *testing.T) {
	for _, kind := range textKinds {
		for _, s := range []string{"%", "-%", "12%"} {
			for _, n := range []int{4095, 4096, 4097, 4098, 8192, 100000} {
				long := strings.Replace(s, "%", strings.Repeat("7", n-len(s)+1), 1)
				if kind == api.Verbatim {
					long = "txt:" + long[4:]
				}
				want := api.OK
				if n > 4096 {
					want = api.ErrValue
				}
				check(t, want, text(kind, long), List(text(kind, long)))
			}
		}
	}
	// Bytes are counted, not letters.
	check(t, api.OK, Text(strings.Repeat("ä", 2048)))
	check(t, api.ErrValue, Text(strings.Repeat("ä", 2048)+"a"))
}

// P3.1
func TestCheckOfEveryByteInLines(t *testing.T) {
	for _, kind := range []int{api.Simple, api.Error, api.Bulk, api.Blob} {
		for b := range 256 {
			want := api.OK
			if (b == 10 || b == 13) && (kind == api.Simple || kind == api.Error) {
				want = api.ErrValue
			}
			c := string([]byte{byte(b)})
			check(t, want, text(kind, c), text(kind, c+"ab"), text(kind, "a"+c+"b"), text(kind, "ab"+c), text(kind, strings.Repeat("x", 4095)+c))
		}
	}
	check(t, api.ErrValue, Fail("\r\n"), Fail("a\r\n"), text(api.Simple, "\n\r"), text(api.Simple, "OK\r\nOK"))
}

// P3.1
func TestCheckOfBigs(t *testing.T) {
	for _, s := range []string{"0", "9", "10", "-1", "-0", "00", "-00", "-0099", "007", "9223372036854775808", "-9223372036854775809", strings.Repeat("1", 4096), "-" + strings.Repeat("0", 4095)} {
		check(t, api.OK, text(api.Big, s))
	}
	for _, s := range []string{"", "-", "--", "--1", "+", "+1", "-+1", "1-", "1-1", "-1-", "1.5", "1.", ".1", "1e3", " 1", "1 ", "- 1", "1\n", "1\r\n", "0x1", "a", "1a", "a1", "1a1", "1_0", "1,0", "inf", "nan", "\u0661", "\uff11", "\u22121", "\xff", "1\xff1", "\x00", "/", ":"} {
		check(t, api.ErrValue, text(api.Big, s))
	}
	for b := range 256 {
		c, want, first := string([]byte{byte(b)}), api.ErrValue, api.ErrValue
		if b >= '0' && b <= '9' {
			want, first = api.OK, api.OK
		}
		if b == '-' {
			first = api.OK
		}
		check(t, first, text(api.Big, c+"12"))
		check(t, want, text(api.Big, c), text(api.Big, "-"+c), text(api.Big, "1"+c+"2"), text(api.Big, "12"+c), text(api.Big, "-"+c+"1"))
	}
}

// P3.1
func TestCheckOfVerbatims(t *testing.T) {
	for _, s := range []string{"txt:", "txt:a", "mkd:\r\n", "::::", "   :", "\x00\x00\x00:", "äb:", "abc::", "abc:abc:", "a:b:", "\r\n\r:"} {
		check(t, api.OK, text(api.Verbatim, s))
	}
	for _, s := range []string{"", ":", "a:", "ab:", "abc", ":::", "txt", "abcd", "abcd:", "ab:c", "äbc:", "txt;", "txt :", "ab:cd", "\u00e4\u00e4:", strings.Repeat("a", 4096)} {
		check(t, api.ErrValue, text(api.Verbatim, s))
	}
}

// P3.1
func TestCheckOfHowManyInAList(t *testing.T) {
	for n := range 12 {
		l := times(n, Int(7))
		check(t, api.OK, of(api.Array, l...), of(api.Set, l...), List(of(api.Array, l...)))
		want := api.OK
		if n%2 == 1 {
			want = api.ErrValue
		}
		check(t, want, of(api.Map, l...), List(of(api.Map, l...)), of(api.Push, of(api.Map, l...)))
		want = api.OK
		if n == 0 {
			want = api.ErrValue
		}
		check(t, want, of(api.Push, l...))
		if n > 0 {
			for _, kind := range []int{api.Simple, api.Error, api.Whole, api.Bulk, api.Null, api.Real, api.Bool, api.Blob} {
				check(t, api.ErrValue, of(kind, l...))
			}
			check(t, api.ErrValue, api.Value{Kind: api.Big, Text: "1", List: l}, api.Value{Kind: api.Verbatim, Text: "txt:", List: l})
		}
	}
	check(t, api.ErrValue, of(api.Map, times(999, Nil())...), api.Value{Kind: api.Push, List: []api.Value{}})
	check(t, api.OK, of(api.Map, times(998, Nil())...))
}

// P3.1
func TestCheckOfAPushInAList(t *testing.T) {
	push := of(api.Push, Int(1))
	check(t, api.OK, push)
	for _, kind := range listKinds {
		for n := range 6 {
			check(t, api.ErrValue, nested(n, kind, of(kind, push, Nil())), nested(n, kind, of(kind, Nil(), push)), of(api.Push, nested(n, api.Array, push)))
		}
	}
}

// P3.1: what is wrong anywhere within is wrong.
func TestCheckOfWrongValuesWithin(t *testing.T) {
	wrong := []api.Value{{}, {Kind: 15}, Fail("\n"), text(api.Big, "-"), text(api.Verbatim, "abc"), of(api.Map, Nil()), of(api.Push), {Kind: api.Null, Int: 1}, {Kind: api.Bulk, Real: minus0}, Text(strings.Repeat("x", 4097)), of(api.Bulk, Nil())}
	for _, v := range wrong {
		check(t, api.ErrValue, v)
		for _, kind := range listKinds {
			check(t, api.ErrValue, of(kind, v, Nil()), of(kind, Nil(), v), of(kind, Nil(), Nil(), v, Nil()), of(kind, nested(3, api.Array, v), Nil()), of(kind, Nil(), nested(6, api.Map, v)))
		}
	}
}

// P3.1
func TestCheckOfDepth(t *testing.T) {
	for _, kind := range []int{api.Array, api.Set, api.Map} {
		for n := 1; n <= 12; n++ {
			want := api.OK
			if n > 8 {
				want = api.ErrValue
			}
			leaf, empty := nested(n, kind, Int(1)), nested(n-1, kind, of(kind))
			check(t, want, leaf, empty)
			if Depth(leaf) != n || Depth(empty) != n {
				t.Error(kind, n, Depth(leaf), Depth(empty))
			}
			inner, last := nested(n-1, kind, Nil()), nested(n-1, api.Array, List())
			check(t, want, of(api.Push, inner), of(api.Array, Nil(), inner), of(api.Array, inner, Nil()), of(api.Set, List(), inner))
			if n > 7 {
				want = api.ErrValue
			}
			check(t, want, of(api.Array, Nil(), last), of(api.Push, last), of(api.Map, last, Nil()), of(api.Map, List(), last))
		}
	}
	check(t, api.ErrValue, nested(50, api.Array, Nil()), nested(51, api.Array, Nil()), nested(1000, api.Array, Nil()))
}

// P3.1
func TestCheckOfCount(t *testing.T) {
	for _, c := range []struct {
		n int
		v api.Value
	}{
		{1000, of(api.Array, times(999, Int(1))...)}, {1001, of(api.Array, times(1000, Int(1))...)}, {1002, of(api.Array, times(1001, Int(1))...)},
		{1000, of(api.Push, times(999, Int(1))...)}, {1001, of(api.Push, times(1000, Int(1))...)}, {999, of(api.Map, times(998, Int(1))...)}, {1001, of(api.Map, times(1000, Int(1))...)},
		{1000, of(api.Set, times(999, List())...)}, {1001, of(api.Set, times(1000, List())...)},
		{1000, List(List(times(499, Nil())...), List(times(498, Nil())...))}, {1001, List(List(times(499, Nil())...), List(times(499, Nil())...))}, {1001, List(List(times(498, Nil())...), List(times(500, Nil())...))},
		{1000, nested(7, api.Array, of(api.Array, times(992, Nil())...))}, {1001, nested(7, api.Array, of(api.Array, times(993, Nil())...))},
		{1000, of(api.Set, times(333, of(api.Map, Nil(), Nil()))...)}, {1003, of(api.Set, times(334, of(api.Map, Nil(), Nil()))...)},
		{100001, of(api.Array, times(100000, Nil())...)},
	} {
		want := api.OK
		if c.n > 1000 {
			want = api.ErrValue
		}
		check(t, want, c.v)
		if n := Count(c.v); n != c.n && Check(c.v) == want {
			t.Errorf("Count = %d, not %d", n, c.n)
		}
	}
}

// P3.1
func TestDepthAndCountOfKnownValues(t *testing.T) {
	for i, c := range []struct {
		v            api.Value
		depth, count int
	}{
		{Nil(), 0, 1}, {Text("a"), 0, 1}, {Int(9), 0, 1}, {Ok(), 0, 1}, {api.Value{}, 0, 1}, {api.Value{Kind: 15}, 0, 1},
		{of(api.Array), 1, 1}, {of(api.Set), 1, 1}, {of(api.Map), 1, 1}, {of(api.Push), 1, 1}, {api.Value{Kind: api.Array, List: []api.Value{}}, 1, 1},
		{List(Nil()), 1, 2}, {List(Nil(), Nil(), Nil()), 1, 4}, {List(List()), 2, 2}, {List(Nil(), List()), 2, 3}, {List(List(), Nil()), 2, 3}, {List(List(List()), List()), 3, 4}, {List(List(), List(List())), 3, 4},
		{of(api.Map, Text("k"), of(api.Set, Int(1), Int(2))), 2, 5}, {of(api.Push, of(api.Map, List(), Nil())), 3, 4}, {of(api.Array, of(api.Push, Nil())), 2, 3},
		{nested(8, api.Array, Nil()), 8, 9}, {nested(9, api.Set, Nil()), 9, 10}, {nested(49, api.Array, Nil()), 49, 50}, {nested(50, api.Array, Nil()), 50, 51}, {nested(49, api.Set, of(api.Set)), 50, 50}, {nested(50, api.Map, Nil()), 50, 101},
		{List(nested(20, api.Array, Nil()), nested(30, api.Array, Nil()), nested(10, api.Array, Nil())), 31, 64},
		// A Kind without a List isn't deep, whatever stands there; all that stands there is counted.
		{of(api.Bulk, List(Nil())), 0, 3}, {List(of(api.Null, List(List()))), 1, 4}, {of(0, Nil()), 0, 2},
	} {
		if Depth(c.v) != c.depth || Count(c.v) != c.count {
			t.Error(i, Depth(c.v), c.depth, Count(c.v), c.count)
		}
	}
}

// some is any right value of at most so many and so deep, with its depth and its count.
func some(r *rand.Rand, most, deep int) (v api.Value, depth, count int) {
	kinds := []int{api.Simple, api.Error, api.Whole, api.Bulk, api.Null, api.Real, api.Bool, api.Big, api.Blob, api.Verbatim, api.Array, api.Map, api.Set, api.Array}
	if deep == 0 || most < 2 {
		kinds = kinds[:10]
	}
	v.Kind, count = kinds[r.Intn(len(kinds))], 1
	words := []string{"", "a", "ab", "OK", "b", strings.Repeat("z", r.Intn(30))}
	switch v.Kind {
	case api.Simple, api.Error, api.Bulk, api.Blob:
		v.Text = words[r.Intn(len(words))]
	case api.Big:
		v.Text = []string{"0", "-1", "10", "007"}[r.Intn(4)]
	case api.Verbatim:
		v.Text = "txt:" + words[r.Intn(len(words))]
	case api.Whole:
		v.Int = int64(r.Intn(7)) - 3
	case api.Real:
		v.Real = []float64{0, minus0, 1.5, nan, math.Inf(1)}[r.Intn(5)]
	case api.Bool:
		v.Flag = r.Intn(2) == 1
	case api.Array, api.Set, api.Map:
		depth = 1
		for n := r.Intn(5); len(v.List) < n || v.Kind == api.Map && len(v.List)%2 == 1; {
			w, d, c := some(r, (most-count)/3, deep-1)
			v.List, depth, count = append(v.List, w), max(depth, d+1), count+c
		}
	}
	return v, depth, count
}

// P3.1: of many values, all that is asked.
func TestManyValues(t *testing.T) {
	r := rand.New(rand.NewSource(5))
	before := Nil()
	for range 4000 {
		v, depth, count := some(r, 900, 8)
		if Check(v) != api.OK || Depth(v) != depth || Count(v) != count {
			t.Fatal(v, Check(v), Depth(v), depth, Count(v), count)
		}
		c := Copy(v)
		if !Same(c, v) || !Same(v, c) || !Same(v, v) || Check(c) != api.OK || Depth(c) != depth || Count(c) != count {
			t.Fatal(v, c)
		}
		if key(v) != key(c) || Same(v, before) != (key(v) == key(before)) {
			t.Fatal(v, before)
		}
		if depth < 8 != (Check(of(api.Push, v)) == api.OK) {
			t.Fatal(v)
		}
		before = v
	}
}

// key is a text that only the same values have.
func key(v api.Value) string {
	b := []byte{byte(v.Kind), byte(len(v.Text)), byte(v.Int), 0}
	if v.Flag {
		b[3] = 1
	}
	b = append(b, v.Text...)
	switch bits := math.Float64bits(v.Real); {
	case v.Real != v.Real:
		b = append(b, 'n')
	default:
		for i := range 8 {
			b = append(b, byte(bits>>(8*i)))
		}
	}
	b = append(b, byte(len(v.List)))
	for _, w := range v.List {
		b = append(b, key(w)...)
	}
	return string(b)
}

// changed is a value, one thing changed at a time, at each depth.
func changed(v api.Value) []api.Value {
	var l []api.Value
	add := func(change func(w *api.Value)) {
		w := v
		w.List = slices.Clone(v.List)
		change(&w)
		l = append(l, w)
	}
	add(func(w *api.Value) { w.Kind++ })
	add(func(w *api.Value) { w.Text += "\x00" })
	add(func(w *api.Value) { w.Int++ })
	add(func(w *api.Value) { w.Int += 1 << 32 })
	add(func(w *api.Value) { w.Flag = !w.Flag })
	add(func(w *api.Value) { w.Real = 7 })
	add(func(w *api.Value) { w.List = append(w.List, api.Value{}) })
	if v.Real == 0 {
		add(func(w *api.Value) { w.Real = -w.Real })
	}
	if v.Real == v.Real {
		add(func(w *api.Value) { w.Real = nan })
	}
	if v.Text != "" {
		add(func(w *api.Value) { w.Text = w.Text[1:] })
	}
	if n := len(v.List); n > 0 {
		add(func(w *api.Value) { w.List = w.List[:n-1] })
		add(func(w *api.Value) { w.List = nil })
	}
	for i := range v.List {
		for _, inner := range changed(v.List[i]) {
			add(func(w *api.Value) { w.List[i] = inner })
		}
	}
	return l
}

// P3.1
func TestSameTellsEachChange(t *testing.T) {
	for _, v := range []api.Value{Nil(), Text("a"), Int(3), Ok(), {Kind: api.Real, Real: nan}, {Kind: api.Real, Real: 1.5}, {Kind: api.Bool, Flag: true}, {},
		List(Text("a"), Int(1), List(Nil(), of(api.Map, Text("k"), of(api.Set, Int(2))))), nested(50, api.Array, Int(1)),
		{Kind: 99, Text: "a", Int: 1, Real: minus0, Flag: true, List: []api.Value{Nil(), {Kind: api.Bulk, List: []api.Value{Nil()}}}}} {
		if !Same(v, v) || !Same(v, Copy(v)) || !Same(Copy(v), v) {
			t.Errorf("not the same: %+v", v)
		}
		for _, w := range changed(v) {
			if Same(v, w) || Same(w, v) {
				t.Errorf("the same: %+v and %+v", v, w)
			}
			if c := Copy(w); !Same(w, c) {
				t.Errorf("not the same: %+v and %+v", w, c)
			}
		}
	}
}

// P3.1
func TestSameOfKnownValues(t *testing.T) {
	real := func(f float64) api.Value { return api.Value{Kind: api.Real, Real: f} }
	other := math.Float64frombits(0xFFF8000000000123)
	for i, c := range []struct {
		a, b api.Value
		same bool
	}{
		{real(nan), real(other), true}, {List(real(other)), List(real(nan)), true}, {real(0), real(minus0), false}, {List(real(minus0)), List(real(0)), false}, {real(minus0), real(minus0), true}, {real(0), api.Value{Kind: api.Real}, true}, {real(math.Inf(1)), real(math.Inf(-1)), false},
		{api.Value{Kind: api.Null, Real: minus0}, Nil(), false}, {api.Value{Kind: api.Null, Real: nan}, api.Value{Kind: api.Null, Real: other}, true},
		{of(api.Array), api.Value{Kind: api.Array, List: []api.Value{}}, true}, {List(of(api.Set)), List(api.Value{Kind: api.Set, List: make([]api.Value, 0, 4)}), true}, {Nil(), api.Value{Kind: api.Null, List: []api.Value{}}, true},
		{of(api.Array), of(api.Set), false}, {List(), Nil(), false}, {Text("1"), Int(1), false}, {Text("a"), text(api.Blob, "a"), false}, {Text("a"), Text("A"), false},
		{List(Int(1), Int(2)), List(Int(2), Int(1)), false}, {of(api.Set, Int(1), Int(2)), of(api.Set, Int(2), Int(1)), false}, {List(Int(1)), List(Int(1), Int(1)), false}, {List(Int(1), Int(1)), List(Int(1)), false}, {List(List(), Nil()), List(Nil(), List()), false},
	} {
		if Same(c.a, c.b) != c.same || Same(c.b, c.a) != c.same {
			t.Error(i, c.a, c.b)
		}
	}
}

// lists are all Lists of a value, with their spare room.
func lists(v api.Value) [][]api.Value {
	l := [][]api.Value{v.List[:cap(v.List)]}
	for _, w := range v.List {
		l = append(l, lists(w)...)
	}
	return l
}

// apart: do no two of these share a place?
func apart(l [][]api.Value) bool {
	seen := map[*api.Value]int{}
	for _, list := range l {
		for i := range list {
			seen[&list[i]]++
			if seen[&list[i]] > 1 {
				return false
			}
		}
	}
	return true
}

// P3.1: all Lists of a copy are its own, also those that stand in it more than once.
func TestCopyHasListsOfItsOwn(t *testing.T) {
	shared := List(Int(1), List(Int(2)))
	room := make([]api.Value, 2, 9)
	room[0], room[1] = shared, of(api.Map, shared, shared)
	odd := api.Value{Kind: api.Bulk, Text: "a", Int: 1, Real: nan, Flag: true, List: []api.Value{List(Int(1)), {Kind: api.Null, List: []api.Value{Int(2)}}}}
	for i, v := range []api.Value{shared, of(api.Array, room...), of(api.Set, room[:1]...), of(api.Push, room[:0]...), odd, nested(50, api.Map, shared)} {
		as := key(v)
		c := Copy(v)
		if !Same(v, c) || key(c) != as || !apart(lists(c)) {
			t.Error(i, "not a copy")
		}
		for _, a := range lists(v) {
			if !apart(append(lists(c), a)) {
				t.Error(i, "shared")
			}
		}
		for _, l := range lists(c) {
			for j := range l {
				l[j] = Int(99)
			}
		}
		if key(v) != as || room[2:9][0].Kind != 0 {
			t.Error(i, "changed", v)
		}
	}
	a := List(List(Int(1)), Int(2))
	b := Copy(a)
	a.List[0].List[0], a.List[1] = Nil(), Nil()
	if !Same(b, List(List(Int(1)), Int(2))) {
		t.Error("kept", b)
	}
}

// P3.1: of values of Kinds without Lists, and wrong ones, too.
func TestCopyIsTheSame(t *testing.T) {
	for _, v := range []api.Value{{}, {Kind: -3, Text: "\r\n"}, {Kind: api.Real, Real: minus0}, {Kind: api.Real, Real: nan}, {Kind: api.Bool, Flag: true}, Text(strings.Repeat("x", 5000)), Int(math.MinInt64), of(api.Push), of(api.Map, Nil()), of(api.Null, of(api.Push)), of(api.Array, times(3000, of(api.Set, Nil()))...)} {
		c := Copy(v)
		if c.Kind != v.Kind || c.Text != v.Text || c.Int != v.Int || math.Float64bits(c.Real) != math.Float64bits(v.Real) || c.Flag != v.Flag || len(c.List) != len(v.List) || !Same(c, v) {
			t.Errorf("Copy(%+v) = %+v", v, c)
		}
	}
}

// only: is it of that Kind, with that Text and that Int, and nothing else?
func only(v api.Value, kind int, s string, n int64) bool {
	return v.Kind == kind && v.Text == s && v.Int == n && math.Float64bits(v.Real) == 0 && !v.Flag && len(v.List) == 0
}

// P3.2
func TestMadeValues(t *testing.T) {
	for _, s := range []string{"", "a", "OK", "a\r\nb", "\x00\xff", "12", strings.Repeat("x", 4096), strings.Repeat("x", 4097), strings.Repeat("\n", 1<<20)} {
		if !only(Text(s), api.Bulk, s, 0) || !only(Fail(s), api.Error, s, 0) {
			t.Errorf("%d bytes: %d, %d", len(s), Text(s).Kind, Fail(s).Kind)
		}
	}
	for _, n := range []int64{0, 1, -1, 10, math.MaxInt64, math.MinInt64} {
		if !only(Int(n), api.Whole, "", n) {
			t.Error(n, Int(n))
		}
	}
	if !only(Ok(), api.Simple, "OK", 0) || !only(Nil(), api.Null, "", 0) || !only(List(), api.Array, "", 0) {
		t.Error(Ok(), Nil(), List())
	}
	check(t, api.OK, Text(""), Text("\r\n"), Fail(""), Fail("ERR a"), Int(0), Ok(), Nil(), List(), List(Ok(), Nil()))
	check(t, api.ErrValue, Text(strings.Repeat("x", 4097)), Fail("a\nb"), Fail("\r"))
}

// P3.2
func TestMadeLists(t *testing.T) {
	push, deep := of(api.Push, Nil()), nested(60, api.Array, Text("a"))
	for n := range 6 {
		l := []api.Value{Int(1), Text("a"), push, {Kind: 77, Real: minus0}, deep}[:min(n, 5)]
		v := List(l...)
		if v.Kind != api.Array || v.Text != "" || v.Int != 0 || v.Real != 0 || v.Flag || len(v.List) != len(l) {
			t.Fatal(n, v)
		}
		for i := range l {
			if !Same(v.List[i], l[i]) {
				t.Error(n, i, v.List[i])
			}
		}
	}
	if v := List(Int(1), List(Int(2), Int(3))); len(v.List) != 2 || v.List[0].Int != 1 || v.List[1].Kind != api.Array || v.List[1].List[1].Int != 3 {
		t.Error(v)
	}
}

// P3.2: what is handed in isn't kept, nor changed; two answers share nothing.
func TestMadeListsAreTheirOwn(t *testing.T) {
	inner := List(Int(1))
	l := append(make([]api.Value, 0, 8), inner, inner, Text("a"))
	as := key(of(api.Array, l...))
	a, b := List(l...), List(l...)
	if !apart(slices.Concat(lists(a), lists(b), lists(of(api.Array, l[:2:2]...))[:2])) {
		t.Error("shared")
	}
	for _, w := range lists(a) {
		for i := range w {
			w[i] = Int(99)
		}
	}
	if key(of(api.Array, l...)) != as || key(b) != as || l[:8][3].Kind != 0 {
		t.Error("changed", l, b)
	}
	inner.List[0], l[2] = Nil(), Nil()
	if key(b) != as {
		t.Error("kept", b)
	}
}

// odd are values that hold themselves, or one another, and others that are deep or wide.
func odd() []api.Value {
	var l []api.Value
	for _, kind := range []int{api.Array, api.Map, api.Set, api.Push, api.Bulk, api.Null, 0} {
		for _, n := range []int{1, 2, 20} {
			own := make([]api.Value, n)
			for i := range own {
				own[i] = of(kind, own...)
			}
			last := times(n, Nil())
			last[n-1] = of(kind, last...)
			one, two := make([]api.Value, n), make([]api.Value, n)
			for i := range n {
				one[i], two[i] = of(kind, two...), of(api.Set, one...)
			}
			l = append(l, of(kind, own...), of(kind, last...), of(kind, one...), of(kind, two...))
		}
		l = append(l, nested(51, kind, Nil()), nested(3000, kind, Nil()), nested(1<<16, kind, Nil()))
	}
	return l
}

// P1: a panic at any of these arguments, or a call that doesn't end, fails the test.
func TestCallsEndAtAllArguments(t *testing.T) {
	l := odd()
	for i, v := range l {
		check(t, api.ErrValue, v, of(api.Array, v))
		Depth(v)
		Count(v)
		Same(v, v)
		Same(v, l[(i+1)%len(l)])
		Copy(v)
		List(v, v)
	}
	for _, kind := range append(noKinds, allKinds...) {
		for _, s := range []string{"", "-", ":", "a", strings.Repeat("-", 1<<20)} {
			v := api.Value{Kind: kind, Text: s, Int: math.MinInt64, Real: nan, Flag: true, List: times(3, api.Value{Kind: kind})}
			check(t, api.ErrValue, v)
			if Count(v) != 4 || !Same(v, Copy(v)) || Depth(v) > 2 {
				t.Errorf("%+v", v)
			}
		}
	}
}

// P1: Check ends, however many there would be in all.
func TestCheckEndsWhereEachListHoldsTheNextOneTwice(t *testing.T) {
	for _, n := range []int{10, 30, 60, 2000} {
		v := Nil()
		for range n {
			v = of(api.Array, v, v)
		}
		check(t, api.ErrValue, v)
	}
	wide := Nil()
	for range 7 {
		wide = of(api.Set, times(1000, wide)...)
	}
	check(t, api.ErrValue, wide)
}

// P3.1: within what the promises bound, also beyond a DEPTH of 50, nothing is lost.
func TestValuesOfDeepNests(t *testing.T) {
	for _, n := range []int{51, 52, 64, 100, 1000, 1<<16 - 1} {
		v := nested(n, api.Array, Int(1))
		w := nested(n, api.Array, Int(2))
		if Depth(v) != n || Count(v) != n+1 || !Same(v, Copy(v)) || Same(v, w) || Depth(List(v)) != n+1 && n < 1<<16-1 {
			t.Error(n, Depth(v), Count(v))
		}
		odd := nested(n, api.Bulk, Int(1))
		if Depth(odd) != 0 || Count(odd) != n+1 || !Same(odd, Copy(odd)) || Same(odd, nested(n, api.Bulk, Int(2))) {
			t.Error(n, Depth(odd), Count(odd))
		}
	}
}

// P2: the same arguments have the same answers, whatever was asked between, and aren't changed.
func TestAnswersDependOnArgumentsAlone(t *testing.T) {
	r := rand.New(rand.NewSource(9))
	type answers struct {
		e            api.Errno
		depth, count int
		same         bool
		key, copied  string
	}
	ask := func(v api.Value) answers {
		e, depth, count, same, copied := Check(v), Depth(v), Count(v), Same(v, Text("a")), key(Copy(v))
		return answers{e, depth, count, same, key(v), copied}
	}
	l := []api.Value{{}, Text("a"), of(api.Map, Nil()), nested(9, api.Array, Nil()), of(api.Array, times(1000, Nil())...), Fail("\n")}
	for range 200 {
		v, _, _ := some(r, 300, 8)
		l = append(l, v)
	}
	first := make([]answers, len(l))
	for i, v := range l {
		first[i] = ask(v)
	}
	for i := len(l) - 1; i >= 0; i-- {
		if again := ask(l[i]); again != first[i] {
			t.Errorf("%+v: %v, then %v", l[i], first[i], again)
		}
	}
}
