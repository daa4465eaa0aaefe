package recent

import (
	"math/rand"
	"slices"
	"strconv"
	"strings"
	"testing"
)

// The calls' signatures are part of what is promised.
var (
	_ func() *Recent                       = New
	_ func(*Recent, string) bool           = (*Recent).Touch
	_ func(*Recent, string) bool           = (*Recent).Drop
	_ func(*Recent, string) bool           = (*Recent).Has
	_ func(*Recent, string) (string, bool) = (*Recent).Oldest
	_ func(*Recent) []string               = (*Recent).All
	_ func(*Recent) int                    = (*Recent).Len
	_ func(*Recent)                        = (*Recent).Clear
)

// noKey is a key that no test touches.
const noKey = "none of them"

// odd are keys that are easily taken for another one, or for none.
var odd = []string{"", "a", "A", "ab", "a ", " ", "\x00", "\x00\x00", "é", "\xc3", "\xa9", "\xff\xfe", noKey + ".", strings.Repeat("k", 100000), strings.Repeat("k", 99999)}

// brief is the beginning of what is told of a fault.
func brief(l []string) string {
	s := strconv.Quote(strings.Join(l, " "))
	return s[:min(len(s), 200)]
}

// holds asks all that can be asked of those keys, the first of which was used
// longest ago.
func holds(t *testing.T, r *Recent, want []string) {
	t.Helper()
	if l := r.All(); !slices.Equal(l, want) {
		t.Fatalf("All: %s, not %s", brief(l), brief(want))
	}
	if r.Len() != len(want) {
		t.Fatalf("Len: %d, not %d", r.Len(), len(want))
	}
	for _, k := range want {
		if !r.Has(k) {
			t.Fatalf("Has: none of %s", brief([]string{k}))
		}
	}
	if r.Has(noKey) {
		t.Fatal("Has: a key that was never there")
	}
	oldestIs(t, r, want, noKey)
	for _, k := range want[:min(len(want), 3)] {
		oldestIs(t, r, want, k)
	}
	if len(want) > 0 {
		oldestIs(t, r, want, want[len(want)-1])
	}
}

// oldestIs holds which of those keys is the first one, but one.
func oldestIs(t *testing.T, r *Recent, of []string, but string) {
	t.Helper()
	i := slices.IndexFunc(of, func(k string) bool { return k != but })
	want := ""
	if i >= 0 {
		want = of[i]
	}
	if k, ok := r.Oldest(but); k != want || ok != (i >= 0) {
		t.Fatalf("Oldest but %s: %s, %t, not %s", brief([]string{but}), brief([]string{k}), ok, brief([]string{want}))
	}
}

// touched is those keys, used in that order.
func touched(keys ...string) *Recent {
	r := New()
	for _, k := range keys {
		r.Touch(k)
	}
	return r
}

// P10.1
func TestNewHasNone(t *testing.T) {
	r := New()
	holds(t, r, nil)
	for _, k := range odd {
		if r.Has(k) || r.Drop(k) {
			t.Errorf("%s is there", brief([]string{k}))
		}
		oldestIs(t, r, nil, k)
	}
	holds(t, r, nil)
	if New() == New() {
		t.Error("one for two")
	}
}

// P10.1: the document's example.
func TestExample(t *testing.T) {
	if k, ok := touched("a", "b", "a").Oldest("x"); k != "b" || !ok {
		t.Error(k, ok)
	}
}

// P10.1: a key that is touched is the last one, and new but if it is there.
func TestTouch(t *testing.T) {
	for _, c := range []struct{ touch, all, fresh string }{
		{"a", "a", "y"},
		{"a a a", "a", "ynn"},
		{"a b", "a b", "yy"},
		{"a b a", "b a", "yyn"},
		{"a b b", "a b", "yyn"},
		{"a b a b a", "b a", "yynnn"},
		{"a b c a", "b c a", "yyyn"},
		{"a b c b", "a c b", "yyyn"},
		{"a b c c", "a b c", "yyyn"},
		{"a b c a b c", "a b c", "yyynnn"},
		{"a b c c b a", "c b a", "yyynnn"},
		{"a b c d b c", "a d b c", "yyyynn"},
		{"b a A ab", "b a A ab", "yyyy"},
	} {
		r := New()
		for i, k := range strings.Fields(c.touch) {
			if r.Touch(k) != (c.fresh[i] == 'y') {
				t.Errorf("%s: Touch %d of %s", c.touch, i, k)
			}
		}
		holds(t, r, strings.Fields(c.all))
	}
}

// P10.1: a key that is dropped goes, from wherever it is, and can come again.
func TestDrop(t *testing.T) {
	for _, c := range []struct{ touch, drop, all, there string }{
		{"a", "a", "", "y"},
		{"a", "a a", "", "yn"},
		{"a", "b", "a", "n"},
		{"", "a", "", "n"},
		{"a b", "a", "b", "y"},
		{"a b", "b", "a", "y"},
		{"a b c", "a", "b c", "y"},
		{"a b c", "b", "a c", "y"},
		{"a b c", "c", "a b", "y"},
		{"a b c", "b b d", "a c", "ynn"},
		{"a b c", "a c", "b", "yy"},
		{"a b c", "c a b", "", "yyy"},
		{"a b c d e", "b d", "a c e", "yy"},
		{"a b c d e", "b c d", "a e", "yyy"},
		{"a b a a", "a a", "b", "yn"},
		{"a", "A", "a", "n"},
	} {
		r := touched(strings.Fields(c.touch)...)
		for i, k := range strings.Fields(c.drop) {
			if r.Drop(k) != (c.there[i] == 'y') {
				t.Errorf("%s, %s: Drop %d of %s", c.touch, c.drop, i, k)
			}
			if r.Has(k) {
				t.Errorf("%s, %s: %s is there still", c.touch, c.drop, k)
			}
		}
		left := strings.Fields(c.all)
		holds(t, r, left)
		for _, k := range strings.Fields(c.drop) {
			if r.Touch(k) == slices.Contains(left, k) {
				t.Errorf("%s, %s: Touch of %s", c.touch, c.drop, k)
			}
			left = append(slices.DeleteFunc(left, func(l string) bool { return l == k }), k)
		}
		holds(t, r, left)
	}
}

// P10.1: to be asked for isn't to be used.
func TestAskingUsesNothing(t *testing.T) {
	r := touched("a", "b", "c")
	for _, k := range []string{"a", "b", "c", "d", ""} {
		r.Has(k)
		r.Oldest(k)
		r.All()
		r.Len()
		holds(t, r, []string{"a", "b", "c"})
	}
	if r.Has("d") || !r.Touch("d") {
		t.Error("asking has made a key")
	}
}

// P10.1: the first one that isn't that one, whether that one is there or not.
func TestOldest(t *testing.T) {
	for _, c := range []struct{ touch, but, want string }{
		{"", "a", "-"},
		{"a", "a", "-"},
		{"a", "b", "a"},
		{"a", "", "a"},
		{"a", "A", "a"},
		{"a b", "a", "b"},
		{"a b", "b", "a"},
		{"a b", "c", "a"},
		{"a b a", "a", "b"},
		{"a b a", "b", "a"},
		{"a b c", "a", "b"},
		{"a b c", "b", "a"},
		{"a b c", "c", "a"},
		{"b a", "", "b"},
	} {
		k, ok := touched(strings.Fields(c.touch)...).Oldest(c.but)
		if want := strings.Trim(c.want, "-"); k != want || ok != (want != "") {
			t.Errorf("%s, but %q: %q, %t", c.touch, c.but, k, ok)
		}
	}
}

// P10.1: an empty text is a key as others are.
func TestTheEmptyKey(t *testing.T) {
	r := New()
	if !r.Touch("") || r.Touch("") {
		t.Error("Touch")
	}
	holds(t, r, []string{""})
	if k, ok := r.Oldest("a"); k != "" || !ok {
		t.Error(k, ok)
	}
	if k, ok := r.Oldest(""); k != "" || ok {
		t.Error(k, ok)
	}
	r.Touch("a")
	holds(t, r, []string{"", "a"})
	if k, ok := r.Oldest(""); k != "a" || !ok {
		t.Error(k, ok)
	}
	r.Touch("")
	holds(t, r, []string{"a", ""})
	if !r.Drop("") || r.Drop("") {
		t.Error("Drop")
	}
	holds(t, r, []string{"a"})
}

// P10.1: none is there any more, and all can come again.
func TestClear(t *testing.T) {
	r := New()
	r.Clear()
	holds(t, r, nil)
	for range 3 {
		for _, k := range odd {
			if !r.Touch(k) {
				t.Error("not new")
			}
		}
		holds(t, r, odd)
		r.Clear()
		holds(t, r, nil)
		for _, k := range odd {
			if r.Has(k) || r.Drop(k) {
				t.Errorf("%s is there", brief([]string{k}))
			}
		}
	}
	r.Clear()
	r.Touch("b")
	r.Touch("a")
	holds(t, r, []string{"b", "a"})
}

// P10.1, P1: keys of any bytes and of any length, each once.
func TestOddKeys(t *testing.T) {
	r := New()
	for i, k := range odd {
		if r.Has(k) || !r.Touch(k) || r.Touch(k) {
			t.Errorf("%s isn't new", brief([]string{k}))
		}
		holds(t, r, odd[:i+1])
	}
	for i, k := range odd {
		if !r.Drop(k) || r.Drop(k) {
			t.Errorf("%s wasn't there", brief([]string{k}))
		}
		holds(t, r, odd[i+1:])
	}
}

// P10.1, P1: many keys, and neither a call that takes long nor one that ends
// by its depth.
func TestManyKeys(t *testing.T) {
	const many = 100000
	r := New()
	var want []string
	for i := range many {
		r.Touch(strconv.Itoa(i))
	}
	for i := range many { // first the odd ones go, then the others are used, the last one first
		if i%2 == 1 && !r.Drop(strconv.Itoa(i)) {
			t.Fatal(i, "wasn't there")
		}
	}
	for i := many - 2; i >= 0; i -= 2 {
		if r.Touch(strconv.Itoa(i)) {
			t.Fatal(i, "is new")
		}
		want = append(want, strconv.Itoa(i))
	}
	holds(t, r, want)
	for _, k := range want {
		if got, ok := r.Oldest(noKey); got != k || !ok {
			t.Fatal(got, ok, "not", k)
		}
		r.Drop(k)
	}
	holds(t, r, nil)
}

// plain is Recent another way: a list of keys, the one used longest ago first.
type plain struct{ keys []string }

func (p *plain) drop(key string) bool {
	i := slices.Index(p.keys, key)
	if i >= 0 {
		p.keys = slices.Delete(p.keys, i, i+1)
	}
	return i >= 0
}

func (p *plain) touch(key string) bool {
	was := p.drop(key)
	p.keys = append(p.keys, key)
	return !was
}

// P10.1: many calls, held against a plain list.
func TestManyCalls(t *testing.T) {
	for seed := range 60 {
		rnd := rand.New(rand.NewSource(int64(seed)))
		r, p := New(), &plain{}
		for range 400 {
			k := strings.Repeat("k", rnd.Intn(1+seed/4))
			switch n := rnd.Intn(40); {
			case n < 22:
				if r.Touch(k) != p.touch(k) {
					t.Fatalf("seed %d: Touch of %q", seed, k)
				}
			case n < 39:
				if r.Drop(k) != p.drop(k) {
					t.Fatalf("seed %d: Drop of %q", seed, k)
				}
			default:
				r.Clear()
				p.keys = nil
			}
			if r.Has(k) != slices.Contains(p.keys, k) {
				t.Fatalf("seed %d: Has of %q", seed, k)
			}
			oldestIs(t, r, p.keys, k)
			holds(t, r, p.keys)
		}
	}
}

// P2: two that were used alike answer alike, and neither knows of the other.
func TestEachIsItsOwn(t *testing.T) {
	a, b, other := New(), New(), New()
	for i := range 500 {
		k := strconv.Itoa(i * i % 67)
		if a.Touch(k) != b.Touch(k) {
			t.Fatal("Touch of", k)
		}
		other.Drop(k)
		other.Touch(strconv.Itoa(i))
		other.Clear()
		if i%3 == 0 && a.Drop(strconv.Itoa(i%67)) != b.Drop(strconv.Itoa(i%67)) {
			t.Fatal("Drop of", i%67)
		}
		holds(t, a, b.All())
		holds(t, other, nil)
	}
	a.Clear()
	if b.Len() == 0 || a.Len() != 0 {
		t.Error(a.Len(), b.Len())
	}
}

// P10.1: what All answers is the asker's, and stays as it is; its spare room, too.
func TestAllIsNew(t *testing.T) {
	r := touched("a", "b", "c")
	first, second := r.All(), r.All()
	for i := range first[:cap(first)] {
		first[:cap(first)][i] = "x"
	}
	if !slices.Equal(second, []string{"a", "b", "c"}) {
		t.Error(second)
	}
	r.Touch("a")
	r.Drop("b")
	if !slices.Equal(second, []string{"a", "b", "c"}) {
		t.Error(second)
	}
	holds(t, r, []string{"c", "a"})
}
