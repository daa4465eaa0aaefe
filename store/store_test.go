package store

import (
	"math"
	"math/rand"
	"slices"
	"strconv"
	"strings"
	"testing"

	"nearhand/api"
	"nearhand/item"
)

// The calls' signatures are part of what is promised.
var (
	_ func(int64) *Store                                    = New
	_ func(*Store, string, int64) (api.Item, bool)          = (*Store).Get
	_ func(*Store, string, int64) (api.Item, bool)          = (*Store).Peek
	_ func(*Store, string, api.Item, bool, int64) api.Errno = (*Store).Put
	_ func(*Store, string, int64) bool                      = (*Store).Drop
	_ func(*Store, string, int64, int64) bool               = (*Store).Expire
	_ func(*Store, string, int64) bool                      = (*Store).Persist
	_ func(*Store, string, int64) int64                     = (*Store).Ttl
	_ func(*Store, int64, int) int                          = (*Store).Sweep
	_ func(*Store)                                          = (*Store).Flush
	_ func(*Store) []string                                 = (*Store).Keys
	_ func(*Store) int                                      = (*Store).Len
	_ func(*Store) int64                                    = (*Store).Bytes
	_ func(*Store) []api.Event                              = (*Store).Events
)

// wide is a budget that no test comes near to.
const wide = api.MaxBudget

// odd are keys in order, all easily taken for another one, or for none.
var odd = []string{"", "\x00", "\x00\x00", " ", "A", "a", "a ", "ab", strings.Repeat("k", 511), strings.Repeat("k", 512), "\xa9", "\xc3", "é", "\xff\xfe"}

// text is an item of that Text.
func text(s string) api.Item { return api.Item{Kind: api.TextItem, Text: s} }

// ten is a text of 10 bytes: with a key of one byte it counts 59.
const ten = "abcdefghij"

// hash is an item of Fields, written as name=text.
func hash(fields string) api.Item {
	i := api.Item{Kind: api.HashItem}
	for _, w := range strings.Fields(fields) {
		name, text, _ := strings.Cut(w, "=")
		i.Fields = append(i.Fields, api.Field{Name: name, Text: text})
	}
	return i
}

// put puts keys at 0, each one with its own name as its Text.
func put(t *testing.T, s *Store, keys string) {
	t.Helper()
	for _, k := range strings.Fields(keys) {
		putItem(t, s, k, text(k))
	}
}

// putItem puts one at 0.
func putItem(t *testing.T, s *Store, key string, i api.Item) {
	t.Helper()
	if e := s.Put(key, i, false, 0); e != api.OK {
		t.Fatalf("Put of %.20q: %d", key, e)
	}
}

// with is a store of those keys, written as key=when, or as key alone, if it
// doesn't end, of which nothing is to be told any more.
func with(t *testing.T, list string) *Store {
	t.Helper()
	s := New(wide)
	for _, w := range strings.Fields(list) {
		key, when, ends := strings.Cut(w, "=")
		put(t, s, key)
		if n, _ := strconv.ParseInt(when, 10, 64); ends && !s.Expire(key, n, 0) {
			t.Fatal("Expire of", key)
		}
	}
	s.Events()
	return s
}

// tell writes events as a sign and a key each.
func tell(events []api.Event) string {
	var l []string
	for _, e := range events {
		sign := strconv.Itoa(e.Kind) + "?"
		switch e.Kind {
		case api.EventSet:
			sign = "+"
		case api.EventGone:
			sign = "-"
		case api.EventExpired:
			sign = "x"
		case api.EventEvicted:
			sign = "^"
		case api.EventFlush:
			sign = "!"
		}
		l = append(l, sign+e.Key)
	}
	return strings.Join(l, " ")
}

// told holds what is told, and that it is told once.
func told(t *testing.T, s *Store, want string) {
	t.Helper()
	if got := tell(s.Events()); got != want {
		t.Fatalf("told %.300q, not %.300q", got, want)
	}
	if l := s.Events(); len(l) != 0 {
		t.Fatalf("told twice: %.300q", tell(l))
	}
}

// keysAre holds which keys there are, in order.
func keysAre(t *testing.T, s *Store, want string) {
	t.Helper()
	l := strings.Fields(want)
	if got := s.Keys(); !slices.Equal(got, l) || s.Len() != len(l) {
		t.Fatalf("%d keys: %.300q, not %.300q", s.Len(), got, l)
	}
}

// bytesAre holds how many bytes there are.
func bytesAre(t *testing.T, s *Store, want int64) {
	t.Helper()
	if n := s.Bytes(); n != want {
		t.Fatalf("%d bytes, not %d", n, want)
	}
}

// has holds what a key has at a time.
func has(t *testing.T, s *Store, key string, now int64, want api.Item) {
	t.Helper()
	if i, ok := s.Peek(key, now); !ok || !item.Same(i, want) {
		t.Fatalf("%.20q has %+v, %t, not %+v", key, i, ok, want)
	}
}

// hasNone holds that a key has nothing at a time.
func hasNone(t *testing.T, s *Store, key string, now int64) {
	t.Helper()
	if i, ok := s.Peek(key, now); ok || !item.Same(i, api.Item{}) {
		t.Fatalf("%.20q has %+v, %t", key, i, ok)
	}
	if i, ok := s.Get(key, now); ok || !item.Same(i, api.Item{}) {
		t.Fatalf("%.20q has %+v, %t", key, i, ok)
	}
	if n := s.Ttl(key, now); n != -2 {
		t.Fatalf("%.20q has %d still", key, n)
	}
}

// ttl holds how long a key has still.
func ttl(t *testing.T, s *Store, key string, now, want int64) {
	t.Helper()
	if n := s.Ttl(key, now); n != want {
		t.Fatalf("%.20q has %d at %d, not %d", key, n, now, want)
	}
}

// isEmpty holds that a store has nothing at all.
func isEmpty(t *testing.T, s *Store) {
	t.Helper()
	keysAre(t, s, "")
	bytesAre(t, s, 0)
	if n := s.Sweep(api.MaxTime, math.MaxInt); n != 0 {
		t.Fatalf("%d were swept", n)
	}
}

// P12.2: nothing is there, and nothing that is asked of it is told.
func TestNewHasNone(t *testing.T) {
	for _, budget := range []int64{0, 1, 59, wide} {
		s := New(budget)
		isEmpty(t, s)
		for _, k := range odd {
			hasNone(t, s, k, 0)
			if s.Drop(k, 0) || s.Persist(k, 0) || s.Expire(k, 5, 0) || s.Expire(k, 0, 0) || s.Expire(k, -1, 0) {
				t.Errorf("%.20q is there", k)
			}
		}
		isEmpty(t, s)
		told(t, s, "")
	}
	if New(1) == New(1) {
		t.Error("one for two")
	}
}

// P12.2: the document's example.
func TestExample(t *testing.T) {
	s := New(120)
	for _, k := range []string{"a", "b", "c"} {
		putItem(t, s, k, text(ten))
	}
	told(t, s, "+a +b +c ^a")
	keysAre(t, s, "b c")
	bytesAre(t, s, 118)
	hasNone(t, s, "a", 0)
}

// P12.2: others are taken as the nearer of 0 and the greatest one.
func TestBudgetsThatCannotBe(t *testing.T) {
	if api.MaxBudget != 1000000000000 {
		t.Fatal(int64(api.MaxBudget))
	}
	for _, budget := range []int64{0, -1, -48, math.MinInt64, 47, 48} {
		s := New(budget)
		for range 2 {
			if e := s.Put("", text(""), false, 0); budget < 48 && e != api.ErrFull || budget == 48 && e != api.OK {
				t.Errorf("a budget of %d: %d", budget, e)
			}
		}
		if s.Len() != int(max(budget, 47)-47) {
			t.Errorf("a budget of %d: %d keys", budget, s.Len())
		}
	}
	for _, c := range []struct{ budget, want int64 }{
		{math.MinInt64, 0}, {-1, 0}, {0, 0}, {1, 1}, {wide - 1, wide - 1}, {wide, wide}, {wide + 1, wide}, {math.MaxInt64, wide},
	} {
		// As many bytes can't be put to show the greatest one.
		s := New(c.budget)
		if s.budget != c.want {
			t.Errorf("a budget of %d: %d", c.budget, s.budget)
		}
		if e := s.Put("k", text(ten), false, 0); c.want >= 59 && e != api.OK || c.want < 59 && e != api.ErrFull {
			t.Errorf("a budget of %d: %d", c.budget, e)
		}
	}
}

// P12.2: an item whose cost alone is more than the budget has no room.
func TestItemsThatAreTooMuch(t *testing.T) {
	if api.ErrFull != 121 {
		t.Fatal(api.ErrFull)
	}
	for _, c := range []struct {
		key  string
		i    api.Item
		cost int64
	}{
		{"", text(""), 48}, {"k", text(""), 49}, {"k", text(ten), 59}, {"key", text("abc"), 54}, {"k", text("é"), 51},
		// a number counts 8, however long it is
		{"k", text("1"), 57}, {"k", text("-9223372036854775808"), 57}, {"k", text("01"), 51},
		{"k", hash("f=x"), 49 + 18}, {"k", hash("f= g=12345678901"), 49 + 17 + 28},
		{strings.Repeat("k", 512), text(strings.Repeat("x", 4096)), 48 + 512 + 4096},
	} {
		s := New(c.cost)
		for _, k := range []bool{false, true, false} {
			if e := s.Put(c.key, c.i, k, 0); e != api.OK {
				t.Fatalf("%.20q, of %d: %d", c.key, c.cost, e)
			}
			bytesAre(t, s, c.cost)
			has(t, s, c.key, 0, c.i)
		}
		told(t, s, strings.TrimSpace(strings.Repeat("+"+c.key+" ", 3)))
		s = New(c.cost - 1)
		if e := s.Put(c.key, c.i, false, 0); e != api.ErrFull {
			t.Fatalf("%.20q, of %d: %d", c.key, c.cost, e)
		}
		isEmpty(t, s)
		told(t, s, "")
	}
}

// wrongItems are items that aren't right.
func wrongItems() []api.Item {
	many := api.Item{Kind: api.HashItem}
	for i := range api.MaxFields + 1 {
		many.Fields = append(many.Fields, api.Field{Name: strconv.Itoa(1000 + i)})
	}
	return []api.Item{
		{}, {Text: "a"}, {Kind: -1, Text: "a"}, {Kind: 3, Text: "a"}, {Kind: math.MaxInt}, text(strings.Repeat("x", 4097)),
		{Kind: api.TextItem, Text: "a", Fields: []api.Field{{Name: "f"}}}, {Kind: api.HashItem}, {Kind: api.HashItem, Text: "a", Fields: []api.Field{{Name: "f"}}},
		hash("b=1 a=2"), hash("a=1 a=2"), many, hash(strings.Repeat("f", 513) + "=x"), hash("f=" + strings.Repeat("x", 4097)),
	}
}

// P12.2: what can't be isn't put, and nothing changes.
func TestWrongPuts(t *testing.T) {
	long := strings.Repeat("k", 513)
	for _, budget := range []int64{100, wide} {
		s := New(budget)
		putItem(t, s, "a", text("1"))
		s.Expire("a", 50, 0)
		s.Events()
		for n, i := range wrongItems() {
			for _, k := range []string{"a", "b", "", long} {
				for _, keep := range []bool{false, true} {
					if e := s.Put(k, i, keep, 3); e != api.ErrValue {
						t.Errorf("item %d of %.20q: %d", n, k, e)
					}
				}
			}
		}
		for _, i := range []api.Item{text("1"), text(ten), hash("f=x"), text(strings.Repeat("x", 4096))} {
			// ahead of its being too much, too
			if e := s.Put(long, i, false, 3); e != api.ErrValue {
				t.Errorf("of %.20q: %d", long, e)
			}
		}
		told(t, s, "")
		keysAre(t, s, "a")
		bytesAre(t, s, 57)
		has(t, s, "a", 3, text("1"))
		ttl(t, s, "a", 3, 47)
	}
}

// P12.2: likewise of what has no room: the key has what it had, and when it
// was used is as it was.
func TestPutsThatHaveNoRoom(t *testing.T) {
	s := New(130)
	putItem(t, s, "a", text(ten))
	putItem(t, s, "b", text(ten))
	s.Expire("a", 50, 0)
	s.Events()
	for _, k := range []string{"a", "b", "c"} {
		for _, keep := range []bool{false, true} {
			if e := s.Put(k, text(strings.Repeat("x", 82)), keep, 1); e != api.ErrFull {
				t.Error(k, e)
			}
		}
	}
	told(t, s, "")
	keysAre(t, s, "a b")
	bytesAre(t, s, 118)
	has(t, s, "a", 1, text(ten))
	ttl(t, s, "a", 1, 49)
	ttl(t, s, "b", 1, -1)
	put(t, s, "c")
	told(t, s, "+c ^a")
	if e := s.Put("b", text(strings.Repeat("x", 81)), false, 1); e != api.OK {
		t.Error(e)
	}
	told(t, s, "+b ^c")
	bytesAre(t, s, 130)
}

// P12.1, P12.2: a key that has ended goes ahead of an error, too; nothing
// else changes.
func TestAnErrorOfAKeyThatHasEnded(t *testing.T) {
	for _, c := range []struct {
		i api.Item
		e api.Errno
	}{{api.Item{}, api.ErrValue}, {hash("b=1 a=2"), api.ErrValue}, {text(strings.Repeat("x", 152)), api.ErrFull}} {
		for _, keep := range []bool{false, true} {
			s := New(200)
			put(t, s, "a b")
			s.Expire("a", 5, 0)
			s.Expire("b", 5, 0)
			s.Events()
			if e := s.Put("a", c.i, keep, 5); e != c.e {
				t.Error(e, "not", c.e)
			}
			told(t, s, "xa")
			keysAre(t, s, "b")
			bytesAre(t, s, 50)
			hasNone(t, s, "a", 5)
			told(t, s, "")
		}
	}
}

// P12.2: what a key has is what was put last, of whatever kind.
func TestPutAnew(t *testing.T) {
	s := New(wide)
	full := api.Item{Kind: api.HashItem}
	for i := range api.MaxFields {
		full.Fields = append(full.Fields, api.Field{Name: strconv.Itoa(1000 + i), Text: "x"})
	}
	for _, i := range []api.Item{text("x"), text("x"), hash("f=x g=y"), text(""), text("12345678901"), full, hash("f="), text(strings.Repeat("x", 4096)), text("0")} {
		putItem(t, s, "k", i)
		told(t, s, "+k")
		has(t, s, "k", 0, i)
		if got, ok := s.Get("k", 0); !ok || !item.Same(got, i) {
			t.Errorf("%+v, %t", got, ok)
		}
		keysAre(t, s, "k")
		bytesAre(t, s, item.Cost("k", i))
	}
	if !s.Drop("k", 0) {
		t.Error("Drop")
	}
	bytesAre(t, s, 0)
}

// P12.2: its own key's cost is the new one alone, when room is looked for.
func TestRoomOfAKeyPutAnew(t *testing.T) {
	s := New(2 * 59)
	putItem(t, s, "a", text(ten))
	putItem(t, s, "b", text(ten))
	putItem(t, s, "a", text(ten))
	putItem(t, s, "b", text(ten[:9]))
	putItem(t, s, "b", text(ten))
	told(t, s, "+a +b +a +b +b")
	bytesAre(t, s, 118)
	putItem(t, s, "b", text(ten+"x"))
	told(t, s, "+b ^a")
	bytesAre(t, s, 60)
}

// P12.2: which calls use a key, as it is shown by which one goes for want of
// room: a was put first, then b, then c; then that is done with a.
func TestWhatIsUsed(t *testing.T) {
	for _, c := range []struct {
		what string
		do   func(s *Store)
		gone string
	}{
		{"nothing", func(s *Store) {}, "a"},
		{"Get", func(s *Store) { s.Get("a", 0) }, "b"},
		{"Put", func(s *Store) { s.Put("a", text(ten), false, 0) }, "b"},
		{"Put and keep", func(s *Store) { s.Put("a", text(ten), true, 0) }, "b"},
		{"Drop and Put", func(s *Store) { s.Drop("a", 0); s.Put("a", text(ten), false, 0) }, "b"},
		{"Peek", func(s *Store) { s.Peek("a", 0) }, "a"},
		{"Expire", func(s *Store) { s.Expire("a", 100, 0) }, "a"},
		{"Persist", func(s *Store) { s.Expire("a", 100, 0); s.Persist("a", 0) }, "a"},
		{"Ttl", func(s *Store) { s.Ttl("a", 0) }, "a"},
		{"wrong Put", func(s *Store) { s.Put("a", api.Item{}, false, 0) }, "a"},
		{"great Put", func(s *Store) { s.Put("a", text(strings.Repeat("x", 999)), false, 0) }, "a"},
		{"others", func(s *Store) { s.Keys(); s.Len(); s.Bytes(); s.Sweep(5, 5) }, "a"},
		{"Get of another one", func(s *Store) { s.Get("b", 0); s.Get("z", 0) }, "a"},
		{"Gets of all", func(s *Store) { s.Get("c", 0); s.Get("b", 0); s.Get("a", 0) }, "c"},
		{"Get twice", func(s *Store) { s.Get("a", 0); s.Get("a", 0); s.Get("b", 0) }, "c"},
	} {
		s := New(3 * 59)
		for _, k := range []string{"a", "b", "c"} {
			putItem(t, s, k, text(ten))
		}
		c.do(s)
		s.Events()
		putItem(t, s, "d", text(ten))
		if got := tell(s.Events()); got != "+d ^"+c.gone {
			t.Errorf("%s: %s", c.what, got)
		}
	}
}

// P12.2: as many go as there must, the one used longest ago first, and no
// more; but not the one that came.
func TestEvicted(t *testing.T) {
	for _, c := range []struct {
		text       int // how long
		told, left string
	}{
		{0, "+f", "a b c d e f"}, {1, "+f", "a b c d e f"}, {2, "+f ^b", "a c d e f"}, {60, "+f ^b", "a c d e f"}, {61, "+f ^b ^d", "a c e f"},
		{119, "+f ^b ^d", "a c e f"}, {120, "+f ^b ^d ^e", "a c f"}, {178, "+f ^b ^d ^e", "a c f"}, {179, "+f ^b ^d ^e ^a", "c f"},
		{237, "+f ^b ^d ^e ^a", "c f"}, {238, "+f ^b ^d ^e ^a ^c", "f"}, {296, "+f ^b ^d ^e ^a ^c", "f"},
	} {
		s := New(5*59 + 50)
		for _, k := range []string{"a", "b", "c", "d", "e"} {
			putItem(t, s, k, text(ten))
		}
		s.Get("a", 0)
		s.Get("c", 0)
		s.Events()
		putItem(t, s, "f", text(strings.Repeat("x", c.text)))
		told(t, s, c.told)
		keysAre(t, s, c.left)
		bytesAre(t, s, int64(59*(len(strings.Fields(c.left))-1)+49+c.text))
		has(t, s, "f", 0, text(strings.Repeat("x", c.text)))
	}
}

// P12.2: of keys that are easily taken for none, too: the one that came stays.
func TestEvictedOddKeys(t *testing.T) {
	for _, first := range odd {
		for _, second := range odd {
			if first == second {
				continue
			}
			s := New(48 + 512)
			putItem(t, s, first, text(""))
			putItem(t, s, second, text(strings.Repeat("x", 512-len(second))))
			want := []api.Event{{Kind: api.EventSet, Key: first}, {Kind: api.EventSet, Key: second}, {Kind: api.EventEvicted, Key: first}}
			if l := s.Events(); !slices.Equal(l, want) {
				t.Errorf("%.20q, %.20q: told %.300q", first, second, tell(l))
			}
			if l := s.Keys(); !slices.Equal(l, []string{second}) {
				t.Errorf("%.20q, %.20q: %.300q", first, second, l)
			}
			bytesAre(t, s, 48+512)
		}
	}
}

// P12.2: what was evicted is there no more in any way: not its time, not its
// turn.
func TestEvictedIsGone(t *testing.T) {
	s := New(2 * 59)
	putItem(t, s, "a", text(ten))
	s.Expire("a", 10, 0)
	putItem(t, s, "b", text(ten))
	putItem(t, s, "c", text(ten))
	told(t, s, "+a +a +b +c ^a")
	hasNone(t, s, "a", 5)
	if s.Drop("a", 5) || s.Expire("a", 20, 5) || s.Persist("a", 5) || s.Sweep(100, 9) != 0 {
		t.Error("it is there")
	}
	told(t, s, "")
	if e := s.Put("a", text(ten), true, 5); e != api.OK {
		t.Error(e)
	}
	told(t, s, "+a ^b")
	ttl(t, s, "a", 5, -1)
	has(t, s, "a", 1000, text(ten))
}

// P12.2: a key that has ended, and is still there, counts, and is evicted as
// others are.
func TestEvictedThatHasEnded(t *testing.T) {
	s := New(2 * 59)
	putItem(t, s, "a", text(ten))
	putItem(t, s, "b", text(ten))
	s.Expire("a", 10, 0)
	s.Expire("b", 10, 0)
	s.Events()
	if e := s.Put("c", text(ten), false, 20); e != api.OK {
		t.Error(e)
	}
	told(t, s, "+c ^a")
	keysAre(t, s, "b c")
	if e := s.Put("b", text(ten), true, 20); e != api.OK {
		t.Error(e)
	}
	told(t, s, "xb +b")
	ttl(t, s, "b", 20, -1)
	keysAre(t, s, "b c")
}

// calls are those with a key, each on a key that is there and doesn't end,
// and what is told of it at 0, with the key as k.
var calls = []struct {
	name string
	do   func(s *Store, key string, now int64)
	told string
}{
	{"Get", func(s *Store, key string, now int64) { s.Get(key, now) }, ""},
	{"Peek", func(s *Store, key string, now int64) { s.Peek(key, now) }, ""},
	{"Put", func(s *Store, key string, now int64) { s.Put(key, text("new"), false, now) }, "+k"},
	{"Put and keep", func(s *Store, key string, now int64) { s.Put(key, text("new"), true, now) }, "+k"},
	{"wrong Put", func(s *Store, key string, now int64) { s.Put(key, api.Item{}, true, now) }, ""},
	{"Drop", func(s *Store, key string, now int64) { s.Drop(key, now) }, "-k"},
	{"Expire", func(s *Store, key string, now int64) { s.Expire(key, now+1, now) }, "+k"},
	{"Expire now", func(s *Store, key string, now int64) { s.Expire(key, now, now) }, "-k"},
	{"Persist", func(s *Store, key string, now int64) { s.Persist(key, now) }, "+k"},
	{"Ttl", func(s *Store, key string, now int64) { s.Ttl(key, now) }, ""},
}

// P12.1: each call with a key first sees whether it has ended: it has at its
// time, and behind it, and hasn't ahead of it. Others stay, though they have.
func TestEnded(t *testing.T) {
	for _, when := range []int64{1, 2, 1000, 1 << 32, api.MaxTime - 1, api.MaxTime} {
		for _, c := range calls {
			for _, now := range []int64{0, when - 1, when, when + 1, api.MaxTime} {
				if now > api.MaxTime {
					continue
				}
				s := with(t, "j k l")
				for _, k := range []string{"j", "k", "l"} {
					s.Expire(k, when, 0)
				}
				s.Events()
				c.do(s, "k", now)
				want := c.told
				if now >= when {
					// On what isn't there only Put does anything.
					want = "xk"
					if c.told == "+k" && strings.HasPrefix(c.name, "Put") {
						want = "xk +k"
					}
				}
				if got := tell(s.Events()); got != want {
					t.Errorf("%s at %d of %d: told %q, not %q", c.name, now, when, got, want)
				}
				if l := s.Keys(); !slices.Contains(l, "j") || !slices.Contains(l, "l") {
					t.Errorf("%s at %d of %d: %q", c.name, now, when, l)
				}
			}
		}
	}
}

// P12.1: what has ended is there no more in any way.
func TestEndedIsGone(t *testing.T) {
	s := with(t, "a=5 b=5 c")
	hasNone(t, s, "a", 5)
	told(t, s, "xa")
	keysAre(t, s, "b c")
	bytesAre(t, s, 100)
	if s.Drop("b", 6) || s.Persist("b", 6) || s.Expire("b", 9, 6) {
		t.Error("it is there")
	}
	told(t, s, "xb")
	keysAre(t, s, "c")
	bytesAre(t, s, 50)
	if e := s.Put("a", text("new"), true, 7); e != api.OK {
		t.Error(e)
	}
	ttl(t, s, "a", 100, -1)
	if n := s.Sweep(100, 9); n != 0 {
		t.Error(n)
	}
	told(t, s, "+a")
}

// P12.1: a key that doesn't end is there at all times.
func TestKeysThatDoNotEnd(t *testing.T) {
	s := with(t, "a b=5")
	for _, now := range []int64{0, 5, 1000, api.MaxTime - 1, api.MaxTime} {
		has(t, s, "a", now, text("a"))
		ttl(t, s, "a", now, -1)
	}
	told(t, s, "")
}

// P12.2: a key's time goes, if it isn't kept.
func TestKeep(t *testing.T) {
	for _, c := range []struct {
		list string
		keep bool
		now  int64
		told string
		ttl  int64
	}{
		{"a=10", true, 4, "+a", 6}, {"a=10", false, 4, "+a", -1}, {"a=10", true, 9, "+a", 1}, {"a=10", true, 10, "xa +a", -1}, {"a=10", false, 10, "xa +a", -1},
		{"a", true, 4, "+a", -1}, {"a", false, 4, "+a", -1}, {"b=10", true, 4, "+a", -1}, {"b=10", false, 4, "+a", -1},
	} {
		for _, i := range []api.Item{text("new"), hash("f=x")} {
			s := with(t, c.list)
			if e := s.Put("a", i, c.keep, c.now); e != api.OK {
				t.Error(e)
			}
			told(t, s, c.told)
			ttl(t, s, "a", c.now, c.ttl)
			has(t, s, "a", c.now, i)
			if c.list == "b=10" {
				ttl(t, s, "b", c.now, 10-c.now)
			}
		}
	}
}

// P12.2: a key that is dropped is there no more, and can come again.
func TestDrop(t *testing.T) {
	for _, c := range []struct{ list, drop, told, left string }{
		{"a", "a", "-a", ""}, {"a", "a a", "-a", ""}, {"a", "b", "", "a"}, {"a", "A", "", "a"}, {"a b c", "b", "-b", "a c"}, {"a b c", "a", "-a", "b c"}, {"a b c", "c", "-c", "a b"},
		{"a b c d e", "a c e b d", "-a -c -e -b -d", ""}, {"a b c d e", "e d c b a", "-e -d -c -b -a", ""}, {"a=50 b=50", "a", "-a", "b"}, {"a=50", "a a", "-a", ""},
	} {
		s := with(t, c.list)
		there := s.Len()
		for _, k := range strings.Fields(c.drop) {
			now := s.Len()
			if s.Drop(k, 1) != (s.Len() < now) {
				t.Errorf("%s, %s: Drop of %s", c.list, c.drop, k)
			}
			hasNone(t, s, k, 1)
		}
		if there-s.Len() != len(strings.Fields(c.told)) {
			t.Errorf("%s, %s: %d left", c.list, c.drop, s.Len())
		}
		told(t, s, c.told)
		keysAre(t, s, c.left)
		bytesAre(t, s, 50*int64(s.Len()))
		for _, k := range strings.Fields(c.left) {
			has(t, s, k, 1, text(k))
		}
		if e := s.Put("a", text("new"), true, 1); e != api.OK {
			t.Error(e)
		}
		has(t, s, "a", 1, text("new"))
	}
	s := with(t, "a=50")
	s.Drop("a", 1)
	s.Put("a", text("new"), true, 1)
	ttl(t, s, "a", 1, -1)
}

// P12.3: when a key ends that is told to end.
func TestExpire(t *testing.T) {
	for _, c := range []struct {
		when, now int64
		there     bool // is it there, still?
		ttl       int64
	}{
		{6, 5, true, 1}, {5, 5, false, 0}, {4, 5, false, 0}, {0, 5, false, 0}, {-1, 5, false, 0}, {math.MinInt64, 5, false, 0},
		{1, 0, true, 1}, {0, 0, false, 0}, {-1, 0, false, 0}, {math.MinInt64, 0, false, 0}, {1000, 0, true, 1000},
		{api.MaxTime - 1, 5, true, api.MaxTime - 6}, {api.MaxTime, 5, true, api.MaxTime - 5}, {api.MaxTime + 1, 5, true, api.MaxTime - 5}, {math.MaxInt64, 5, true, api.MaxTime - 5},
		{api.MaxTime, 0, true, api.MaxTime}, {math.MaxInt64, 0, true, api.MaxTime}, {api.MaxTime, api.MaxTime - 1, true, 1}, {math.MaxInt64, api.MaxTime - 1, true, 1},
		{api.MaxTime, api.MaxTime, false, 0}, {api.MaxTime - 1, api.MaxTime, false, 0}, {0, api.MaxTime, false, 0},
	} {
		for _, list := range []string{"a", "a=4611686018427387904"} {
			if c.now == api.MaxTime && list != "a" {
				continue // it has ended there
			}
			s := with(t, list)
			if !s.Expire("a", c.when, c.now) {
				t.Errorf("%d at %d: it wasn't there", c.when, c.now)
			}
			if c.there {
				told(t, s, "+a")
				ttl(t, s, "a", c.now, c.ttl)
				has(t, s, "a", c.now, text("a"))
				has(t, s, "a", c.now+c.ttl-1, text("a"))
				hasNone(t, s, "a", c.now+c.ttl)
				told(t, s, "xa")
			} else {
				told(t, s, "-a")
				keysAre(t, s, "")
				hasNone(t, s, "a", c.now)
				told(t, s, "")
			}
			bytesAre(t, s, 0)
			isEmpty(t, s)
			if s.Expire("a", c.when, c.now) {
				t.Errorf("%d at %d: it is there", c.when, c.now)
			}
			told(t, s, "")
		}
	}
}

// P12.3: a time that is behind the greatest one is that: at it the key ends.
func TestExpireBehindTheGreatestTime(t *testing.T) {
	s := with(t, "a")
	if !s.Expire("a", math.MaxInt64, api.MaxTime) {
		t.Error("it wasn't there")
	}
	told(t, s, "+a")
	hasNone(t, s, "a", api.MaxTime)
	told(t, s, "xa")
}

// P12.3: a key that was to end at one time ends at another one: the last that
// was told of it.
func TestExpireAnew(t *testing.T) {
	s := with(t, "a=10")
	for _, when := range []int64{20, 15, 7, 7, 100} {
		if !s.Expire("a", when, 5) {
			t.Error(when)
		}
		ttl(t, s, "a", 5, when-5)
		told(t, s, "+a")
	}
	has(t, s, "a", 99, text("a"))
	if n := s.Sweep(99, 9); n != 0 {
		t.Error(n)
	}
	if n := s.Sweep(100, 9); n != 1 {
		t.Error(n)
	}
	told(t, s, "xa")
}

// P12.3: its time goes, if it has one.
func TestPersist(t *testing.T) {
	s := with(t, "a=10 b=20 c")
	for _, c := range []struct {
		key  string
		now  int64
		ok   bool
		told string
	}{
		{"c", 5, false, ""}, {"d", 5, false, ""}, {"A", 5, false, ""}, {"", 5, false, ""}, {"a", 9, true, "+a"}, {"a", 9, false, ""}, {"b", 20, false, "xb"}, {"b", 20, false, ""},
	} {
		if s.Persist(c.key, c.now) != c.ok {
			t.Errorf("%s at %d", c.key, c.now)
		}
		told(t, s, c.told)
	}
	keysAre(t, s, "a c")
	ttl(t, s, "a", 1000, -1)
	has(t, s, "a", 1000, text("a"))
	if n := s.Sweep(1000, 9); n != 0 {
		t.Error(n)
	}
}

// P12.3
func TestTtl(t *testing.T) {
	for _, c := range []struct {
		list     string
		now, ttl int64
		told     string
	}{
		{"", 0, -2, ""}, {"b=10", 0, -2, ""}, {"a", 0, -1, ""}, {"a", api.MaxTime, -1, ""}, {"a=10", 0, 10, ""}, {"a=10", 9, 1, ""}, {"a=10", 10, -2, "xa"}, {"a=10", 11, -2, "xa"},
		{"a=4611686018427387904", 0, api.MaxTime, ""}, {"a=4611686018427387904", api.MaxTime - 1, 1, ""}, {"a=4611686018427387904", api.MaxTime, -2, "xa"},
		{"a=1", 0, 1, ""}, {"a=1", 1, -2, "xa"},
	} {
		s := with(t, c.list)
		ttl(t, s, "a", c.now, c.ttl)
		told(t, s, c.told)
		ttl(t, s, "a", c.now, c.ttl)
		told(t, s, "")
	}
}

// P12.4: the first ones that have ended go, by their times, then by their
// keys, and no more than are asked for.
func TestSweep(t *testing.T) {
	const list = "e=3 d=1 c=3 b=2 a=9 f z"
	for _, c := range []struct {
		now  int64
		most int
		told string
	}{
		{0, 9, ""}, {1, 9, "xd"}, {2, 9, "xd xb"}, {3, 9, "xd xb xc xe"}, {4, 9, "xd xb xc xe"}, {8, 9, "xd xb xc xe"}, {9, 9, "xd xb xc xe xa"}, {api.MaxTime, 9, "xd xb xc xe xa"},
		{9, 0, ""}, {9, -1, ""}, {9, math.MinInt, ""}, {9, 1, "xd"}, {9, 2, "xd xb"}, {9, 3, "xd xb xc"}, {9, 4, "xd xb xc xe"}, {9, 5, "xd xb xc xe xa"}, {9, 6, "xd xb xc xe xa"}, {9, math.MaxInt, "xd xb xc xe xa"},
		{3, 3, "xd xb xc"}, {0, math.MaxInt, ""},
	} {
		s := with(t, list)
		if n := s.Sweep(c.now, c.most); n != len(strings.Fields(c.told)) {
			t.Errorf("at %d, at most %d: %d", c.now, c.most, n)
		}
		left := []string{"a", "b", "c", "d", "e", "f", "z"}
		for _, w := range strings.Fields(c.told) {
			left = slices.DeleteFunc(left, func(k string) bool { return k == w[1:] })
		}
		told(t, s, c.told)
		keysAre(t, s, strings.Join(left, " "))
		bytesAre(t, s, 50*int64(len(left)))
	}
	s := with(t, list)
	for _, want := range []string{"xd xb", "xc xe", "xa", ""} {
		if n := s.Sweep(9, 2); n != len(strings.Fields(want)) {
			t.Errorf("%s: %d", want, n)
		}
		told(t, s, want)
	}
}

// P12.4: all go, and one event is told; what was told of ahead of it stays.
func TestFlush(t *testing.T) {
	s := New(3 * 59)
	s.Flush()
	told(t, s, "!")
	for range 3 {
		for _, k := range []string{"a", "b", "c"} {
			putItem(t, s, k, text(ten))
		}
		s.Expire("b", 10, 0)
		s.Flush()
		l := s.Events()
		if tell(l) != "+a +b +c +b !" || l[4] != (api.Event{Kind: api.EventFlush}) {
			t.Errorf("%+v", l)
		}
		isEmpty(t, s)
		for _, k := range []string{"a", "b", "c"} {
			hasNone(t, s, k, 0)
			if s.Drop(k, 0) {
				t.Errorf("%s is there", k)
			}
		}
		told(t, s, "")
	}
	// Neither times nor turns are left, and the budget is as it was.
	for _, k := range []string{"c", "b", "a"} {
		s.Put(k, text(ten), true, 0)
	}
	ttl(t, s, "b", 5, -1)
	told(t, s, "+c +b +a")
	putItem(t, s, "d", text(ten))
	told(t, s, "+d ^c")
	if e := s.Put("e", text(strings.Repeat("x", 129)), false, 0); e != api.ErrFull {
		t.Error(e)
	}
	s.Flush()
	s.Flush()
	told(t, s, "! !")
}

// P12.4: in order by their bytes; those that have ended are there until they
// are asked for.
func TestKeys(t *testing.T) {
	if !slices.IsSorted(odd) {
		t.Fatal("the test's own keys aren't in order")
	}
	s := New(wide)
	bytes := int64(0)
	for i := len(odd) - 1; i >= 0; i-- {
		for range 2 {
			putItem(t, s, odd[i], text("1"))
		}
		s.Expire(odd[i], 5, 0)
		bytes += int64(56 + len(odd[i]))
		bytesAre(t, s, bytes)
		if l := s.Keys(); !slices.Equal(l, odd[i:]) || s.Len() != len(l) {
			t.Fatalf("%.300q", l)
		}
	}
	for i, k := range odd {
		if l := s.Keys(); !slices.Equal(l, odd[i:]) || s.Len() != len(l) {
			t.Fatalf("%.300q", l)
		}
		s.Events()
		hasNone(t, s, k, 5)
		if l := s.Events(); len(l) != 1 || l[0] != (api.Event{Kind: api.EventExpired, Key: k}) {
			t.Fatalf("%.300q", tell(l))
		}
		bytes -= int64(56 + len(k))
		bytesAre(t, s, bytes)
	}
}

// P12.4: in the order in which they happened, of each one every time, and
// then no more.
func TestEvents(t *testing.T) {
	s := New(2 * 59)
	told(t, s, "")
	putItem(t, s, "b", text(ten))
	putItem(t, s, "a", text(ten))
	putItem(t, s, "b", text(ten))
	s.Get("a", 0)
	s.Expire("b", 5, 0)
	s.Expire("a", 3, 0)
	s.Persist("a", 0)
	s.Put("c", text(ten), false, 1)
	s.Peek("a", 4)
	s.Drop("c", 4)
	s.Put("d", text(ten), false, 4)
	s.Expire("d", 6, 4)
	s.Expire("d", 2, 4)
	s.Flush()
	s.Put("e", text(ten), false, 4)
	s.Expire("e", 9, 4)
	s.Sweep(9, 9)
	told(t, s, "+b +a +b +b +a +a +c ^b -c +d +d -d ! +e +e xe")
}

// P12.1 to P12.4: what is handed in is not kept, and what is answered is the
// asker's; its spare room, too.
func TestAnswersAreNew(t *testing.T) {
	s := New(wide)
	fields := []api.Field{{Name: "f", Text: "x"}, {Name: "g", Text: "y"}, {Name: "spare"}}
	putItem(t, s, "h", api.Item{Kind: api.HashItem, Fields: fields[:2]})
	if fields[0] != (api.Field{Name: "f", Text: "x"}) || fields[2] != (api.Field{Name: "spare"}) {
		t.Errorf("%+v", fields)
	}
	fields[0], fields[1] = api.Field{Name: "z"}, api.Field{}
	put(t, s, "a b")
	want := hash("f=x g=y")
	got, _ := s.Get("h", 0)
	peeked, _ := s.Peek("h", 0)
	for _, i := range []api.Item{got, peeked} {
		for n := range i.Fields[:cap(i.Fields)] {
			if n == 0 && !item.Same(i, want) {
				t.Errorf("%+v", i)
			}
			i.Fields[:cap(i.Fields)][n] = api.Field{Name: "other"}
		}
	}
	keys, events := s.Keys(), s.Events()
	for n := range keys[:cap(keys)] {
		keys[:cap(keys)][n] = "other"
	}
	for n := range events[:cap(events)] {
		events[:cap(events)][n] = api.Event{Kind: 9}
	}
	has(t, s, "h", 0, want)
	keysAre(t, s, "a b h")
	told(t, s, "")
	put(t, s, "c")
	first := s.Events()
	put(t, s, "d")
	if tell(first) != "+c" {
		t.Error(tell(first))
	}
	told(t, s, "+d")
}

// P12.2: a list without elements is none; its spare room isn't kept.
func TestListsWithoutElements(t *testing.T) {
	s := New(wide)
	spare := make([]api.Field, 3)
	putItem(t, s, "a", api.Item{Kind: api.TextItem, Text: "x", Fields: spare[:0]})
	if i, _ := s.Get("a", 0); !item.Same(i, text("x")) || cap(i.Fields) > 0 && &i.Fields[:1][0] == &spare[0] {
		t.Errorf("%+v", i)
	}
}

// plain is a store another way: lists that are gone through from end to end.
type plain struct {
	budget int64
	rows   []plainRow // the one used longest ago first
	events []api.Event
}

type plainRow struct {
	key  string
	has  api.Item
	due  bool
	when int64
}

func (p *plain) tell(kind int, key string) {
	p.events = append(p.events, api.Event{Kind: kind, Key: key})
}

// at is where a key stands once it has been seen whether it has ended; -1, if
// it isn't there.
func (p *plain) at(key string, now int64) int {
	n := slices.IndexFunc(p.rows, func(r plainRow) bool { return r.key == key })
	if n >= 0 && p.rows[n].due && now >= p.rows[n].when {
		p.lose(n, api.EventExpired)
		return -1
	}
	return n
}

func (p *plain) lose(n, kind int) {
	p.tell(kind, p.rows[n].key)
	p.rows = slices.Delete(p.rows, n, n+1)
}

func (p *plain) bytes() int64 {
	sum := int64(0)
	for _, r := range p.rows {
		sum += item.Cost(r.key, r.has)
	}
	return sum
}

func (p *plain) keys() []string {
	var l []string
	for _, r := range p.rows {
		l = append(l, r.key)
	}
	slices.Sort(l)
	return l
}

func (p *plain) use(n int) {
	r := p.rows[n]
	p.rows = append(slices.Delete(p.rows, n, n+1), r)
}

func (p *plain) read(key string, touch bool, now int64) (api.Item, bool) {
	n := p.at(key, now)
	if n < 0 {
		return api.Item{}, false
	}
	i := p.rows[n].has
	if touch {
		p.use(n)
	}
	return i, true
}

func (p *plain) put(key string, i api.Item, keep bool, now int64) api.Errno {
	n := p.at(key, now)
	if len(key) > 512 || !item.Right(i) {
		return api.ErrValue
	}
	if item.Cost(key, i) > p.budget {
		return api.ErrFull
	}
	if n < 0 {
		p.rows = append(p.rows, plainRow{key: key})
		n = len(p.rows) - 1
	}
	p.use(n)
	last := &p.rows[len(p.rows)-1]
	last.has, last.due = i, last.due && keep
	p.tell(api.EventSet, key)
	for p.bytes() > p.budget {
		p.lose(0, api.EventEvicted)
	}
	return api.OK
}

func (p *plain) drop(key string, now int64) bool {
	n := p.at(key, now)
	if n >= 0 {
		p.lose(n, api.EventGone)
	}
	return n >= 0
}

func (p *plain) expire(key string, when, now int64) bool {
	n := p.at(key, now)
	if n < 0 {
		return false
	}
	if when <= now || when < 0 {
		p.lose(n, api.EventGone)
		return true
	}
	p.rows[n].due, p.rows[n].when = true, min(when, api.MaxTime)
	p.tell(api.EventSet, key)
	return true
}

func (p *plain) persist(key string, now int64) bool {
	n := p.at(key, now)
	if n < 0 || !p.rows[n].due {
		return false
	}
	p.rows[n].due = false
	p.tell(api.EventSet, key)
	return true
}

func (p *plain) ttl(key string, now int64) int64 {
	n := p.at(key, now)
	if n < 0 {
		return -2
	}
	if !p.rows[n].due {
		return -1
	}
	return p.rows[n].when - now
}

func (p *plain) sweep(now int64, most int) int {
	swept := 0
	for ; swept < most; swept++ {
		first := -1
		for n, r := range p.rows {
			if r.due && now >= r.when && (first < 0 || r.when < p.rows[first].when || r.when == p.rows[first].when && r.key < p.rows[first].key) {
				first = n
			}
		}
		if first < 0 {
			break
		}
		p.lose(first, api.EventExpired)
	}
	return swept
}

// anyItem is one of small ones, now and then a wrong one, or one of great cost.
func anyItem(rnd *rand.Rand) api.Item {
	switch rnd.Intn(12) {
	case 0:
		return api.Item{Kind: rnd.Intn(4), Text: "x", Fields: hash("f=x").Fields}
	case 1:
		return text(strings.Repeat("x", rnd.Intn(500)))
	case 2, 3:
		return hash("f=" + strings.Repeat("y", rnd.Intn(20)) + " g=" + strings.Repeat("z", rnd.Intn(20)))
	case 4:
		return text(strconv.Itoa(rnd.Intn(100000)))
	}
	return text(strings.Repeat("w", rnd.Intn(30)))
}

// step does one call of both, and says what it was, if they differ.
func step(s *Store, p *plain, rnd *rand.Rand, key string, now int64) string {
	switch n := rnd.Intn(100); {
	case n < 35:
		i, keep := anyItem(rnd), rnd.Intn(2) == 0
		if a, b := s.Put(key, i, keep, now), p.put(key, i, keep, now); a != b {
			return "Put: " + strconv.Itoa(int(a)) + ", not " + strconv.Itoa(int(b))
		}
	case n < 55:
		touch := rnd.Intn(2) == 0
		read := s.Peek
		if touch {
			read = s.Get
		}
		i, ok := read(key, now)
		if j, there := p.read(key, touch, now); ok != there || !item.Same(i, j) {
			return "Get, or Peek"
		}
	case n < 63:
		if s.Drop(key, now) != p.drop(key, now) {
			return "Drop"
		}
	case n < 80:
		when := now + int64(rnd.Intn(40)) - 5
		if s.Expire(key, when, now) != p.expire(key, when, now) {
			return "Expire"
		}
	case n < 86:
		if s.Persist(key, now) != p.persist(key, now) {
			return "Persist"
		}
	case n < 92:
		if s.Ttl(key, now) != p.ttl(key, now) {
			return "Ttl"
		}
	case n < 99:
		most := rnd.Intn(6) - 1
		if s.Sweep(now, most) != p.sweep(now, most) {
			return "Sweep"
		}
	default:
		if rnd.Intn(3) == 0 {
			s.Flush()
			p.rows = nil
			p.tell(api.EventFlush, "")
		}
	}
	return ""
}

// P12.1 to P12.4: many calls, held against the plain store.
func TestManyCalls(t *testing.T) {
	for seed := range 200 {
		rnd := rand.New(rand.NewSource(int64(seed)))
		budget := int64([]int{0, 60, 200, 500, 1000, 3000, wide}[seed%7])
		s, p := New(budget), &plain{budget: budget}
		now := int64(0)
		for n := range 500 {
			now += int64(rnd.Intn(3))
			key := strconv.Itoa(rnd.Intn(2 + seed/4))
			if what := step(s, p, rnd, key, now); what != "" {
				t.Fatalf("seed %d, call %d, of %s at %d: %s", seed, n, key, now, what)
			}
			if l := p.keys(); !slices.Equal(s.Keys(), l) || s.Len() != len(l) || s.Bytes() != p.bytes() {
				t.Fatalf("seed %d, call %d: %q of %d bytes, not %q of %d", seed, n, s.Keys(), s.Bytes(), l, p.bytes())
			}
			if rnd.Intn(3) == 0 {
				if a, b := tell(s.Events()), tell(p.events); a != b {
					t.Fatalf("seed %d, call %d: told %q, not %q", seed, n, a, b)
				}
				p.events = nil
			}
		}
	}
}

// P1: every call ends, and none panics, at any keys, items and times.
func TestAnyArguments(t *testing.T) {
	times := []int64{math.MinInt64, math.MinInt64 + 1, -api.MaxTime, -2, -1, 0, 1, api.MaxTime - 1, api.MaxTime, api.MaxTime + 1, math.MaxInt64 - 1, math.MaxInt64}
	keys := append([]string{strings.Repeat("k", 513), strings.Repeat("k", 100000)}, odd...)
	items := append([]api.Item{text(""), text("1"), hash("f=x"), {Kind: math.MinInt}, text(strings.Repeat("x", 1000000)), {Kind: api.HashItem, Fields: make([]api.Field, 100000)}}, wrongItems()...)
	rnd := rand.New(rand.NewSource(12))
	for _, budget := range []int64{math.MinInt64, 0, 100, 1000, wide, math.MaxInt64} {
		s := New(budget)
		for range 2000 {
			key, now, when := keys[rnd.Intn(len(keys))], times[rnd.Intn(len(times))], times[rnd.Intn(len(times))]
			s.Put(key, items[rnd.Intn(len(items))], rnd.Intn(2) == 0, now)
			s.Expire(key, when, times[rnd.Intn(len(times))])
			s.Ttl(key, now)
			s.Get(key, now)
			s.Peek(key, when)
			if rnd.Intn(9) == 0 {
				s.Persist(key, now)
				s.Drop(key, when)
				s.Sweep(when, int(now))
			}
			if rnd.Intn(100) == 0 {
				s.Flush()
			}
		}
		if s.Len() != len(s.Keys()) || s.Bytes() < 0 || s.Bytes() > max(budget, 0) {
			t.Error(s.Len(), s.Bytes())
		}
	}
}

// P1: many keys, and no call that takes long.
func TestManyKeys(t *testing.T) {
	const many = 200000
	s := New(wide)
	for i := range many {
		k := strconv.Itoa(i)
		putItem(t, s, k, text(k))
		if i%2 == 0 {
			s.Expire(k, int64(1+i*7919%many), 0)
		}
	}
	if s.Len() != many {
		t.Fatal(s.Len())
	}
	for now := int64(many / 2); s.Sweep(now, 1) == 1; {
	}
	for i := range many {
		if i%2 == 1 && !s.Drop(strconv.Itoa(i), 0) {
			t.Fatal(i)
		}
	}
	for _, k := range s.Keys() {
		has(t, s, k, many/2, text(k))
	}
	if n := s.Sweep(many, many); n != s.Len()+n || s.Bytes() != 0 {
		t.Error(n, s.Len(), s.Bytes())
	}
}

// P1: many come where few have room; a great one makes all others go.
func TestManyAreEvicted(t *testing.T) {
	const many = 50000
	s := New(many * 60)
	for i := range 4 * many {
		if e := s.Put(strconv.Itoa(1000000 + i)[1:], text("1234"), false, 0); e != api.OK {
			t.Fatal(e)
		}
	}
	if s.Bytes() > many*60 || s.Bytes() <= many*60-62 || s.Len() != many*60/62 {
		t.Error(s.Len(), s.Bytes())
	}
	left := s.Keys()
	if left[0] != strconv.Itoa(1000000 + 4*many - len(left))[1:] {
		t.Error(left[0])
	}
	if l := s.Events(); len(l) != 8*many-len(left) {
		t.Error(len(l))
	}
}

// P2: two that were used alike answer alike, and neither knows of the other.
func TestEachIsItsOwn(t *testing.T) {
	a, b, other := New(600), New(600), New(600)
	for i := range 2000 {
		k, now := strconv.Itoa(i*i%67), int64(i)
		other.Put(k, text("other"), false, now)
		if a.Put(k, text(k), i%2 == 0, now) != b.Put(k, text(k), i%2 == 0, now) || a.Expire(k, now+int64(i%9), now) != b.Expire(k, now+int64(i%9), now) || a.Sweep(now, 1) != b.Sweep(now, 1) {
			t.Fatal(i)
		}
		other.Flush()
		if x, y := tell(a.Events()), tell(b.Events()); x != y || !slices.Equal(a.Keys(), b.Keys()) || a.Bytes() != b.Bytes() {
			t.Fatalf("%d: %s, and %s", i, x, y)
		}
	}
	a.Flush()
	if a.Len() != 0 || b.Len() == 0 {
		t.Error(a.Len(), b.Len())
	}
}
