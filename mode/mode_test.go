package mode

import (
	"math"
	"math/rand"
	"slices"
	"strconv"
	"strings"
	"testing"

	"nearhand/api"
)

// The calls' signatures are part of what is promised.
var (
	_ func(api.Mode) bool                            = Right
	_ func(...string) (api.Mode, api.Errno)          = Parse
	_ func(api.Mode, api.Mode) (api.Mode, api.Errno) = Switch
	_ func(api.Mode, bool) api.Errno                 = Caching
	_ func(api.Mode, int) bool                       = Tracks
	_ func(api.Mode) []string                        = Flags
	_ func(api.Mode, api.Mode) bool                  = Same
	_ func(api.Mode) api.Mode                        = Copy
)

// same holds two modes against each other, field by field, by no call of the package.
func same(a, b api.Mode) bool {
	return a.On == b.On && a.Bcast == b.Bcast && a.OptIn == b.OptIn && a.OptOut == b.OptOut && a.NoLoop == b.NoLoop && a.Redirect == b.Redirect && slices.Equal(a.Prefixes, b.Prefixes)
}

// said is a mode, to be told of at a fault.
func said(m api.Mode) string {
	s := ""
	for _, flag := range []bool{m.On, m.Bcast, m.OptIn, m.OptOut, m.NoLoop} {
		s += strconv.FormatBool(flag) + " "
	}
	prefixes := strconv.Quote(strings.Join(m.Prefixes, " "))
	return s + strconv.Itoa(m.Redirect) + " " + prefixes[:min(len(prefixes), 200)]
}

// bits is a mode whose five flags are a number's lowest five bits.
func bits(n int) api.Mode {
	return api.Mode{On: n&1 != 0, Bcast: n&2 != 0, OptIn: n&4 != 0, OptOut: n&8 != 0, NoLoop: n&16 != 0}
}

// with is a mode with those Prefixes.
func with(m api.Mode, prefixes ...string) api.Mode {
	m.Prefixes = prefixes
	return m
}

// redirected is a mode with that Redirect.
func redirected(m api.Mode, to int) api.Mode {
	m.Redirect = to
	return m
}

// some is so many prefixes, in order, none a beginning of another one.
func some(n int) []string {
	var l []string
	for i := range n {
		l = append(l, strconv.Itoa(10000+i))
	}
	return l
}

// bcast is On and Bcast, plain is On alone.
var (
	bcast = api.Mode{On: true, Bcast: true}
	plain = api.Mode{On: true}
)

// right is what the document says of a mode, word by word.
func right(m api.Mode) bool {
	if !m.On {
		return !m.Bcast && !m.OptIn && !m.OptOut && !m.NoLoop && m.Redirect == 0 && len(m.Prefixes) == 0
	}
	if m.Redirect < 0 || m.Redirect > 1000000000 || m.OptIn && m.OptOut || m.Bcast && (m.OptIn || m.OptOut) {
		return false
	}
	if !m.Bcast {
		return len(m.Prefixes) == 0
	}
	if len(m.Prefixes) < 1 || len(m.Prefixes) > 32 || !slices.IsSorted(m.Prefixes) {
		return false
	}
	for i, p := range m.Prefixes {
		for j, q := range m.Prefixes {
			if i != j && strings.HasPrefix(q, p) {
				return false
			}
		}
		if len(p) > 512 {
			return false
		}
	}
	return true
}

// Types: which flags go together, with and without Prefixes and a Redirect.
func TestRightFlags(t *testing.T) {
	count := 0
	for n := range 32 {
		for _, to := range []int{0, 1} {
			for _, prefixes := range [][]string{nil, {}, {""}, {"a"}, {"a", "b"}} {
				m := redirected(with(bits(n), prefixes...), to)
				if Right(m) != right(m) {
					t.Error(said(m))
				}
				if Right(m) {
					count++
				}
			}
		}
	}
	// Without On: an empty list of either kind. With it, but not Bcast: OptIn, OptOut
	// or neither, NoLoop or not, a Redirect or not, and such a list. With Bcast:
	// NoLoop or not, a Redirect or not, and one of the three other lists.
	if count != 2+3*2*2*2+2*2*3 {
		t.Error(count)
	}
}

// Types: a Redirect is from 0 to 1000000000, and 0 of what isn't On.
func TestRightRedirect(t *testing.T) {
	for _, c := range []struct {
		to int
		ok bool
	}{{0, true}, {1, true}, {999999999, true}, {1000000000, true}, {1000000001, false}, {-1, false}, {math.MinInt64, false}, {math.MaxInt64, false}, {1 << 32, false}} {
		for _, m := range []api.Mode{plain, with(bcast, "a"), {On: true, OptIn: true}, {On: true, OptOut: true, NoLoop: true}} {
			if Right(redirected(m, c.to)) != c.ok {
				t.Error(said(redirected(m, c.to)))
			}
		}
		if Right(api.Mode{Redirect: c.to}) != (c.to == 0) {
			t.Error("off", c.to)
		}
	}
}

// Types: Prefixes are one to 32, of at most 512 bytes, in order by their bytes,
// none a beginning of another one, nor the same.
func TestRightPrefixes(t *testing.T) {
	long := strings.Repeat("k", 512)
	for i, c := range []struct {
		prefixes []string
		ok       bool
	}{
		{nil, false},
		{[]string{""}, true},
		{[]string{"", ""}, false},
		{[]string{"", "a"}, false},
		{[]string{"a", ""}, false},
		{[]string{"a"}, true},
		{[]string{"a", "a"}, false},
		{[]string{"a", "b"}, true},
		{[]string{"b", "a"}, false},
		{[]string{"a", "ab"}, false},
		{[]string{"ab", "a"}, false},
		{[]string{"ab", "b"}, true},
		{[]string{"a", "ab", "b"}, false},
		{[]string{"a", "b", "ab"}, false},
		{[]string{"a", "b", "ba"}, false},
		{[]string{"ab", "ac", "b"}, true},
		{[]string{"ab", "b", "ac"}, false},
		{[]string{"B", "a"}, true},
		{[]string{"a", "B"}, false},
		{[]string{"A", "a"}, true},
		{[]string{"\x00", "\x01"}, true},
		{[]string{"\x00", "\x00\x00"}, false},
		{[]string{"\x7f", "\x80"}, true},
		{[]string{"\x80", "\x7f"}, false},
		{[]string{"z", "é", "\xff"}, true},
		{[]string{"\xc3", "é"}, false},
		{[]string{"10", "9"}, true},
		{[]string{"9", "10"}, false},
		{[]string{" ", "a b"}, true},
		{some(31), true},
		{some(32), true},
		{some(33), false},
		{some(1000), false},
		{[]string{long}, true},
		{[]string{long + "k"}, false},
		{[]string{long, long + "k"}, false},
		{[]string{"a", long}, true},
		{[]string{"a", long + "k", "z"}, false},
		{[]string{long[1:] + "a", long}, true},
		{[]string{long[1:], long}, false},
		{append(some(31), long), true},
		{append(some(31), long+"k"), false},
		{[]string{strings.Repeat("é", 256)}, true},
		{[]string{strings.Repeat("é", 257)}, false},
	} {
		m := with(bcast, c.prefixes...)
		if Right(m) != c.ok || right(m) != c.ok {
			t.Error(i, said(m))
		}
		m.NoLoop, m.Redirect = true, 7
		if Right(m) != c.ok {
			t.Error(i, said(m))
		}
		m.Bcast = false
		if Right(m) != (len(c.prefixes) == 0) {
			t.Error(i, "without Bcast", said(m))
		}
		if Right(api.Mode{Prefixes: c.prefixes}) != (len(c.prefixes) == 0) {
			t.Error(i, "off")
		}
	}
}

// chance makes what a test takes by chance.
type chance struct{ *rand.Rand }

// prefixes is a list of short prefixes of few letters, often in order, often each one once.
func (c chance) prefixes(most int) []string {
	var l []string
	for range c.Intn(most + 1) {
		var p []byte
		for range c.Intn(4) {
			p = append(p, "aAb\xff"[c.Intn(4)])
		}
		l = append(l, string(p))
	}
	if c.Intn(3) > 0 {
		slices.Sort(l)
		l = slices.Compact(l)
	}
	return l
}

// mode is any mode, but of numbers near to what they may be.
func (c chance) mode() api.Mode {
	m := bits(c.Intn(32))
	if c.Intn(4) > 0 {
		m.On = true
	}
	if c.Intn(2) > 0 {
		m.OptIn, m.OptOut = m.OptIn && !m.Bcast, m.OptOut && !m.Bcast
	}
	if c.Intn(4) > 0 {
		m.Redirect = []int{0, 0, 1, 1000000000, -1, 1000000001}[c.Intn(6)]
	}
	if m.Bcast || c.Intn(4) == 0 {
		m.Prefixes = c.prefixes(4)
	}
	return m
}

// rightMode is any mode that is RIGHT.
func (c chance) rightMode() api.Mode {
	for {
		if m := c.mode(); right(m) {
			return m
		}
	}
}

// Types: modes by chance, against what the document says.
func TestRightByChance(t *testing.T) {
	c := chance{rand.New(rand.NewSource(13))}
	yes := 0
	for range 20000 {
		m := c.mode()
		if Right(m) != right(m) {
			t.Fatal(said(m))
		}
		if right(m) {
			yes++
		}
	}
	if yes < 2000 || yes > 18000 {
		t.Error("too few of one kind", yes)
	}
}

// P13.2: from and to what isn't On all goes.
func TestSwitchOnOff(t *testing.T) {
	off := api.Mode{}
	on := []api.Mode{plain, {On: true, OptIn: true}, {On: true, OptOut: true, NoLoop: true}, with(bcast, ""), redirected(with(bcast, "a", "b"), 5), redirected(plain, 1000000000)}
	for _, m := range append(on, off) {
		if got, e := Switch(off, m); e != api.OK || !same(got, m) {
			t.Error("on", said(m), said(got), e)
		}
		if got, e := Switch(m, off); e != api.OK || !same(got, off) {
			t.Error("off", said(m), said(got), e)
		}
		if got, e := Switch(m, m); e != api.OK || !same(got, m) {
			t.Error("as it was", said(m), said(got), e)
		}
	}
}

// P13.2: Bcast, OptIn and OptOut must stay; NoLoop and Redirect are the later ones.
func TestSwitchFlags(t *testing.T) {
	kinds := []api.Mode{plain, {On: true, OptIn: true}, {On: true, OptOut: true}, with(bcast, "a")}
	for i, was := range kinds {
		for j, now := range kinds {
			for n := range 16 {
				was.NoLoop, now.NoLoop = n&1 != 0, n&2 != 0
				was.Redirect, now.Redirect = n&4, n&8
				want, err := now, api.OK
				if i != j {
					want, err = was, api.ErrModes
				}
				if got, e := Switch(was, now); e != err || !same(got, want) {
					t.Error(said(was), said(now), said(got), e)
				}
			}
		}
	}
}

// P13.2: the Prefixes of both, in order, each once, if that is RIGHT.
func TestSwitchPrefixes(t *testing.T) {
	long := strings.Repeat("k", 512)
	thirtytwo := some(32)
	for i, c := range []struct{ was, now, want []string }{
		{[]string{"a"}, []string{"a"}, []string{"a"}},
		{[]string{"a"}, []string{"b"}, []string{"a", "b"}},
		{[]string{"b"}, []string{"a"}, []string{"a", "b"}},
		{[]string{"a", "c"}, []string{"b", "c"}, []string{"a", "b", "c"}},
		{[]string{"a", "b", "c"}, []string{"b"}, []string{"a", "b", "c"}},
		{[]string{"b"}, []string{"a", "b", "c"}, []string{"a", "b", "c"}},
		{[]string{""}, []string{""}, []string{""}},
		{[]string{""}, []string{"a"}, nil},
		{[]string{"a"}, []string{""}, nil},
		{[]string{"a"}, []string{"ab"}, nil},
		{[]string{"ab"}, []string{"a"}, nil},
		{[]string{"ab", "c"}, []string{"aa", "ac"}, []string{"aa", "ab", "ac", "c"}},
		{[]string{"ab", "c"}, []string{"b", "cd"}, nil},
		{[]string{"z"}, []string{"A", "\xff"}, []string{"A", "z", "\xff"}},
		{[]string{long}, []string{long[1:] + "z"}, []string{long, long[1:] + "z"}},
		{thirtytwo[:16], thirtytwo[16:], thirtytwo},
		{thirtytwo, thirtytwo, thirtytwo},
		{thirtytwo[8:], thirtytwo[:24], thirtytwo},
		{thirtytwo, []string{"2"}, nil},
		{[]string{"0"}, thirtytwo, nil},
		{some(33)[1:], []string{"10000"}, nil},
	} {
		was, now := with(bcast, c.was...), with(bcast, c.now...)
		was.Redirect, now.NoLoop = 3, true
		want, err := with(now, c.want...), api.OK
		if c.want == nil {
			want, err = was, api.ErrModes
		}
		if got, e := Switch(was, now); e != err || !same(got, want) {
			t.Error(i, said(got), e)
		}
	}
}

// switched is what the document says of Switch, word by word.
func switched(was, now api.Mode) (api.Mode, api.Errno) {
	if !was.On || !now.On {
		return now, api.OK
	}
	if was.Bcast != now.Bcast || was.OptIn != now.OptIn || was.OptOut != now.OptOut {
		return was, api.ErrModes
	}
	both := map[string]int{}
	for _, p := range was.Prefixes {
		both[p]++
	}
	for _, p := range now.Prefixes {
		both[p]++
	}
	now.Prefixes = nil
	for p := range both {
		now.Prefixes = append(now.Prefixes, p)
	}
	slices.Sort(now.Prefixes)
	if !right(now) {
		return was, api.ErrModes
	}
	return now, api.OK
}

// P13.2: RIGHT modes by chance, against what the document says.
func TestSwitchByChance(t *testing.T) {
	c := chance{rand.New(rand.NewSource(14))}
	count := map[api.Errno]int{}
	for range 10000 {
		was, now := c.rightMode(), c.rightMode()
		if c.Intn(2) > 0 {
			was = with(bcast, c.prefixes(2)...)
			now = with(bcast, c.prefixes(2)...)
			if !right(was) || !right(now) {
				continue
			}
		}
		want, err := switched(was, now)
		got, e := Switch(was, now)
		if e != err || !same(got, want) {
			t.Fatal(said(was), said(now), said(got), e)
		}
		if !right(got) {
			t.Fatal("not RIGHT", said(got))
		}
		count[e]++
	}
	if count[api.OK] < 1000 || count[api.ErrModes] < 1000 || len(count) != 2 {
		t.Error("too few of one kind", count)
	}
}

// P13.3: yes asks for OptIn, and no for OptOut, of what is On.
func TestCaching(t *testing.T) {
	for n := range 32 {
		m := bits(n)
		for _, c := range []struct{ yes, ok bool }{{true, m.On && m.OptIn}, {false, m.On && m.OptOut}} {
			want := api.ErrModes
			if c.ok {
				want = api.OK
			}
			if e := Caching(m, c.yes); e != want {
				t.Error(said(m), c.yes, e)
			}
		}
	}
	for _, c := range []struct {
		m       api.Mode
		yes, no api.Errno
	}{
		{api.Mode{}, api.ErrModes, api.ErrModes},
		{plain, api.ErrModes, api.ErrModes},
		{api.Mode{On: true, OptIn: true, Redirect: 4}, api.OK, api.ErrModes},
		{api.Mode{On: true, OptOut: true, NoLoop: true}, api.ErrModes, api.OK},
		{with(bcast, "a"), api.ErrModes, api.ErrModes},
		{api.Mode{OptIn: true}, api.ErrModes, api.ErrModes},
		{api.Mode{OptOut: true}, api.ErrModes, api.ErrModes},
	} {
		if y, n := Caching(c.m, true), Caching(c.m, false); y != c.yes || n != c.no {
			t.Error(said(c.m), y, n)
		}
	}
}

// P13.3: which RIGHT modes Track, whatever was said of the next command.
func TestTracks(t *testing.T) {
	if api.CachingNone != 0 || api.CachingYes != 1 || api.CachingNo != 2 {
		t.Error("other numbers")
	}
	for _, c := range []struct {
		m     api.Mode
		holds func(caching int) bool
	}{
		{api.Mode{}, func(int) bool { return false }},
		{plain, func(int) bool { return true }},
		{with(bcast, ""), func(int) bool { return false }},
		{with(bcast, "a", "b"), func(int) bool { return false }},
		{api.Mode{On: true, OptIn: true}, func(caching int) bool { return caching == 1 }},
		{api.Mode{On: true, OptOut: true}, func(caching int) bool { return caching != 2 }},
	} {
		for _, m := range []api.Mode{c.m, {On: c.m.On, Bcast: c.m.Bcast, OptIn: c.m.OptIn, OptOut: c.m.OptOut, NoLoop: c.m.On, Prefixes: c.m.Prefixes}} {
			for _, to := range []int{0, 9} {
				if m.On {
					m.Redirect = to
				}
				if !right(m) {
					t.Fatal(said(m))
				}
				for _, caching := range []int{0, 1, 2, 3, -1, 4, math.MinInt64, math.MaxInt64, 1 << 32, 1<<32 + 1, 1<<32 + 2} {
					if Tracks(m, caching) != c.holds(caching) {
						t.Error(said(m), caching)
					}
				}
			}
		}
	}
}

// P13.4: off alone, or on, and behind it what holds.
func TestFlags(t *testing.T) {
	for n := range 32 {
		m := bits(n)
		want := "off"
		if m.On {
			want = "on"
			for i, w := range []string{"bcast", "optin", "optout", "noloop"} {
				if n&(2<<i) != 0 {
					want += " " + w
				}
			}
		}
		for _, p := range []api.Mode{m, redirected(m, 7), with(m, "a", "bcast")} {
			if got := strings.Join(Flags(p), " "); got != want {
				t.Errorf("%s: %s, not %s", said(p), got, want)
			}
		}
	}
}

// P13.4: Same is the same everywhere; a list may be nil or empty.
func TestSame(t *testing.T) {
	full := api.Mode{On: true, Bcast: true, OptIn: true, OptOut: true, NoLoop: true, Redirect: 5, Prefixes: []string{"a", "b"}}
	modes := []api.Mode{{}, full}
	for n := range 32 {
		modes = append(modes, bits(n))
		other := bits(n)
		other.Redirect, other.Prefixes = full.Redirect, full.Prefixes
		modes = append(modes, other)
	}
	for _, to := range []int{0, 4, 6, -5, 5 + 1<<32} {
		modes = append(modes, redirected(full, to))
	}
	for _, p := range [][]string{nil, {}, {""}, {"a"}, {"b"}, {"b", "a"}, {"a", "b", ""}, {"a", "B"}, {"ab"}, {"a", "b", "c"}} {
		modes = append(modes, with(full, p...), with(plain, p...))
	}
	for i, a := range modes {
		for j, b := range modes {
			if Same(a, b) != same(a, b) {
				t.Error(i, j, said(a), said(b))
			}
		}
	}
	if !Same(with(plain), api.Mode{On: true, Prefixes: []string{}}) || !Same(api.Mode{Prefixes: []string{}}, api.Mode{}) {
		t.Error("an empty list is none")
	}
}

// roomy is a list with spare room behind it, which holds something.
func roomy(l ...string) []string {
	room := append(slices.Clone(l), "spare", "room")
	return room[:len(l)]
}

// sharing: do two lists share memory, spare room too?
func sharing(a, b []string) bool {
	a, b = a[:cap(a)], b[:cap(b)]
	for i := range a {
		for j := range b {
			if &a[i] == &b[j] {
				return true
			}
		}
	}
	return false
}

// P13.4: a Copy is the same, with Prefixes of its own, whether it is RIGHT or not.
func TestCopy(t *testing.T) {
	c := chance{rand.New(rand.NewSource(15))}
	for range 2000 {
		m := c.mode()
		m.Prefixes = roomy(m.Prefixes...)
		if c.Intn(8) == 0 {
			m.Prefixes = nil
		}
		got := Copy(m)
		if !same(got, m) || sharing(got.Prefixes, m.Prefixes) {
			t.Fatal(said(m), said(got))
		}
		if again := Copy(m); sharing(got.Prefixes, again.Prefixes) {
			t.Fatal("two Copies share", said(m))
		}
	}
}

// Rules: what is handed in isn't changed, and what is answered is new memory, spare room too.
func TestNewMemory(t *testing.T) {
	c := chance{rand.New(rand.NewSource(16))}
	kept := func(l []string, n int) bool {
		return slices.Equal(l[:cap(l)][n:n+2], []string{"spare", "room"})
	}
	for range 5000 {
		was, now := c.mode(), c.mode()
		if c.Intn(2) > 0 {
			was, now = with(bcast, was.Prefixes...), with(bcast, now.Prefixes...)
		}
		wasSame, nowSame := with(was, slices.Clone(was.Prefixes)...), with(now, slices.Clone(now.Prefixes)...)
		was.Prefixes, now.Prefixes = roomy(was.Prefixes...), roomy(now.Prefixes...)
		got, _ := Switch(was, now)
		Right(was)
		Flags(was)
		Same(was, now)
		Tracks(was, 0)
		Caching(was, true)
		if !same(was, wasSame) || !same(now, nowSame) || !kept(was.Prefixes, len(was.Prefixes)) || !kept(now.Prefixes, len(now.Prefixes)) {
			t.Fatal("changed", said(wasSame), said(nowSame))
		}
		if sharing(got.Prefixes, was.Prefixes) || sharing(got.Prefixes, now.Prefixes) {
			t.Fatal("shared", said(was), said(now))
		}
		if again, _ := Switch(was, now); sharing(got.Prefixes, again.Prefixes) {
			t.Fatal("two answers share", said(was), said(now))
		}
	}
	for n := range 32 {
		if a, b := Flags(bits(n)), Flags(bits(n)); sharing(a, b) {
			t.Fatal("two Flags share", n)
		}
	}
}

// P1, P2: all calls end at all arguments, and answer the same of the same.
func TestAnyArguments(t *testing.T) {
	huge := strings.Repeat("k", 100000)
	lists := [][]string{nil, {}, {""}, {"", ""}, {"b", "a", "b"}, {huge}, {huge, huge[1:]}, {"\xff\xfe", "\x00"}, some(5000), append(some(40), some(40)...)}
	numbers := []int{0, 1, -1, 1000000001, math.MinInt64, math.MaxInt64}
	var modes []api.Mode
	for n := range 32 {
		modes = append(modes, redirected(with(bits(n), lists[n%len(lists)]...), numbers[n%len(numbers)]))
	}
	for n, l := range lists {
		modes = append(modes, redirected(with(bcast, l...), n%2), redirected(with(bits(31), l...), n%2))
	}
	for _, a := range modes {
		for _, b := range modes {
			got, e := Switch(a, b)
			if again, f := Switch(a, b); e != f || !same(got, again) {
				t.Fatal("Switch", said(a), said(b))
			}
			if Same(a, b) != same(a, b) {
				t.Fatal("Same", said(a), said(b))
			}
		}
		for _, n := range numbers {
			if Tracks(a, n) != Tracks(Copy(a), n) {
				t.Fatal("Tracks", said(a))
			}
		}
		if Right(a) != right(a) || !slices.Equal(Flags(a), Flags(Copy(a))) {
			t.Fatal(said(a))
		}
	}
}
