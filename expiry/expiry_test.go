package expiry

import (
	"cmp"
	"math"
	"math/rand"
	"slices"
	"strconv"
	"strings"
	"testing"

	"nearhand/api"
)

// The calls' signatures are part of what is promised.
var (
	_ func() *Expiry                         = New
	_ func(*Expiry, string, int64) api.Errno = (*Expiry).Put
	_ func(*Expiry, string) bool             = (*Expiry).Drop
	_ func(*Expiry, string) (int64, bool)    = (*Expiry).Get
	_ func(*Expiry) (api.Due, bool)          = (*Expiry).Next
	_ func(*Expiry, int64, int) []string     = (*Expiry).Due
	_ func(*Expiry) []api.Due                = (*Expiry).All
	_ func(*Expiry) int                      = (*Expiry).Len
	_ func(*Expiry)                          = (*Expiry).Clear
)

// never is a key that no test puts.
const never = "none of them"

// odd are keys in order, all easily taken for another one, or for none.
var odd = []string{"", "\x00", "\x00\x00", " ", "A", "a", "a ", "ab", strings.Repeat("k", 99999), strings.Repeat("k", 100000), never + ".", "\xa9", "\xc3", "é", "\xff\xfe"}

// put puts keys, written as key=when.
func put(t *testing.T, x *Expiry, list string) {
	t.Helper()
	for _, d := range dueList(list) {
		if e := x.Put(d.Key, d.When); e != api.OK {
			t.Fatalf("Put of %s at %d: %d", d.Key, d.When, e)
		}
	}
}

// with is those keys, put in that order.
func with(t *testing.T, list string) *Expiry {
	t.Helper()
	x := New()
	put(t, x, list)
	return x
}

// dueList is what a list of key=when tells.
func dueList(list string) []api.Due {
	var l []api.Due
	for _, w := range strings.Fields(list) {
		key, when, _ := strings.Cut(w, "=")
		n, err := strconv.ParseInt(when, 10, 64)
		if err != nil {
			panic(err)
		}
		l = append(l, api.Due{When: n, Key: key})
	}
	return l
}

// brief is the beginning of what is told of a fault.
func brief(l []api.Due) string {
	var b strings.Builder
	for _, d := range l {
		b.WriteString(strconv.Quote(d.Key[:min(len(d.Key), 20)]) + "=" + strconv.FormatInt(d.When, 10) + " ")
	}
	return b.String()[:min(b.Len(), 300)]
}

// ripe is what Due must answer, when those are all, in order.
func ripe(of []api.Due, now int64, most int) []string {
	var keys []string
	for _, d := range of {
		if d.When <= now && len(keys) < most {
			keys = append(keys, d.Key)
		}
	}
	return keys
}

// dueIs holds what Due answers, when those are all, in order.
func dueIs(t *testing.T, x *Expiry, of []api.Due, now int64, most int) {
	t.Helper()
	if got, want := x.Due(now, most), ripe(of, now, most); !slices.Equal(got, want) {
		t.Fatalf("Due at %d, at most %d: %.300q, not %.300q", now, most, got, want)
	}
}

// holds asks all that can be asked of those, which are all, in order.
func holds(t *testing.T, x *Expiry, want []api.Due) {
	t.Helper()
	if l := x.All(); !slices.Equal(l, want) {
		t.Fatalf("All: %s, not %s", brief(l), brief(want))
	}
	if x.Len() != len(want) {
		t.Fatalf("Len: %d, not %d", x.Len(), len(want))
	}
	first := api.Due{}
	if len(want) > 0 {
		first = want[0]
	}
	if d, ok := x.Next(); d != first || ok != (len(want) > 0) {
		t.Fatalf("Next: %s%t, not %s", brief([]api.Due{d}), ok, brief([]api.Due{first}))
	}
	for _, d := range want {
		if n, ok := x.Get(d.Key); n != d.When || !ok {
			t.Fatalf("Get of %s: %d, %t", brief([]api.Due{d}), n, ok)
		}
	}
	if n, ok := x.Get(never); n != 0 || ok {
		t.Fatalf("Get of what isn't there: %d, %t", n, ok)
	}
	dueIs(t, x, want, api.MaxTime, len(want))
}

// asked asks of those, which are all, what is due at each of their times and
// beside it, and of each number of them.
func asked(t *testing.T, x *Expiry, of []api.Due) {
	t.Helper()
	holds(t, x, of)
	nows := []int64{math.MinInt64, -1, 0, 1, api.MaxTime, math.MaxInt64}
	for _, d := range of {
		nows = append(nows, d.When-1, d.When, d.When+1)
	}
	for _, now := range nows {
		for most := -1; most <= len(of)+1; most++ {
			dueIs(t, x, of, now, most)
		}
		dueIs(t, x, of, now, math.MinInt)
		dueIs(t, x, of, now, math.MaxInt)
	}
	holds(t, x, of)
}

// P11.1
func TestNewHasNone(t *testing.T) {
	x := New()
	asked(t, x, nil)
	for _, k := range odd {
		if n, ok := x.Get(k); n != 0 || ok || x.Drop(k) {
			t.Errorf("%.20q is there", k)
		}
	}
	asked(t, x, nil)
	if New() == New() {
		t.Error("one for two")
	}
}

// P11.1: the document's example.
func TestExample(t *testing.T) {
	if l := with(t, "a=5 b=3").Due(4, 9); !slices.Equal(l, []string{"b"}) {
		t.Error(l)
	}
}

// P11.1: in order by When, then by Key, whatever the order of the Puts.
func TestOrder(t *testing.T) {
	for _, c := range []struct{ put, all string }{
		{"", ""},
		{"a=5", "a=5"},
		{"a=5 b=3", "b=3 a=5"},
		{"b=3 a=5", "b=3 a=5"},
		{"b=3 a=3", "a=3 b=3"},
		{"a=3 b=3", "a=3 b=3"},
		{"a=10 b=9", "b=9 a=10"},
		{"c=1 b=1 a=1 B=1 ab=1", "B=1 a=1 ab=1 b=1 c=1"},
		{"z=0 a=1", "z=0 a=1"},
		{"é=1 z=1 \xff=1", "z=1 é=1 \xff=1"},
		{"a=4611686018427387904 z=4611686018427387903 b=0", "b=0 z=4611686018427387903 a=4611686018427387904"},
		{"a=4294967296 b=1 c=2147483648 d=4294967297", "b=1 c=2147483648 a=4294967296 d=4294967297"},
		{"a=7 b=6 c=5 d=4 e=3 f=2 g=1", "g=1 f=2 e=3 d=4 c=5 b=6 a=7"},
		{"a=1 b=5 c=2 d=6 e=7 f=3 g=4", "a=1 c=2 f=3 g=4 b=5 d=6 e=7"},
	} {
		asked(t, with(t, c.put), dueList(c.all))
	}
}

// P11.1: each key once: it is due when it was put last.
func TestPutAnew(t *testing.T) {
	for _, c := range []struct{ put, all string }{
		{"a=5 a=5", "a=5"},
		{"a=5 a=6", "a=6"},
		{"a=5 a=4", "a=4"},
		{"a=5 a=0", "a=0"},
		{"a=0 a=5", "a=5"},
		{"a=1 b=2 c=3 a=4", "b=2 c=3 a=4"},
		{"a=1 b=2 c=3 c=0", "c=0 a=1 b=2"},
		{"a=1 b=2 c=3 b=0", "b=0 a=1 c=3"},
		{"a=1 b=2 c=3 b=9", "a=1 c=3 b=9"},
		{"a=1 b=2 c=3 b=3", "a=1 b=3 c=3"},
		{"a=1 b=2 c=3 b=1", "a=1 b=1 c=3"},
		{"a=1 b=2 c=3 c=1 a=2", "c=1 a=2 b=2"},
		{"a=1 b=2 c=3 d=4 e=5 f=6 g=7 a=8", "b=2 c=3 d=4 e=5 f=6 g=7 a=8"},
		{"a=1 b=2 c=3 d=4 e=5 f=6 g=7 g=0", "g=0 a=1 b=2 c=3 d=4 e=5 f=6"},
		{"a=1 b=2 c=3 d=4 e=5 f=6 g=7 a=8 b=8 c=8 d=8 a=0", "a=0 e=5 f=6 g=7 b=8 c=8 d=8"},
	} {
		asked(t, with(t, c.put), dueList(c.all))
	}
}

// P11.1: a time is from 0 to 2 to the power of 62, and at another one nothing
// changes.
func TestTimesThatCannotBe(t *testing.T) {
	if api.ErrTime != 111 || api.MaxTime != 1<<62 {
		t.Fatal(api.ErrTime, int64(api.MaxTime))
	}
	wrong := []int64{-1, -2, math.MinInt64, math.MinInt64 + 1, -api.MaxTime, api.MaxTime + 1, math.MaxInt64, math.MaxInt64 - 1}
	for _, when := range wrong {
		x := New()
		for range 2 {
			if e := x.Put("a", when); e != api.ErrTime {
				t.Errorf("at %d: %d", when, e)
			}
			asked(t, x, nil)
		}
		if x.Drop("a") {
			t.Errorf("at %d: it is there", when)
		}
		put(t, x, "a=5 b=3")
		for _, k := range []string{"a", "b", "c", ""} {
			if e := x.Put(k, when); e != api.ErrTime {
				t.Errorf("%s at %d: %d", k, when, e)
			}
			asked(t, x, dueList("b=3 a=5"))
		}
	}
	for _, when := range []int64{0, 1, math.MaxInt32, math.MaxInt32 + 1, math.MaxUint32, math.MaxUint32 + 1, api.MaxTime - 1, api.MaxTime} {
		x := New()
		if e := x.Put("a", when); e != api.OK {
			t.Errorf("at %d: %d", when, e)
		}
		asked(t, x, []api.Due{{When: when, Key: "a"}})
	}
}

// P11.1: a key that is dropped goes, from wherever it is, and can come again.
func TestDrop(t *testing.T) {
	const seven = "a=1 b=2 c=3 d=4 e=5 f=6 g=7"
	for _, c := range []struct{ put, drop, all, there string }{
		{"", "a", "", "n"},
		{"a=5", "a", "", "y"},
		{"a=5", "a a", "", "yn"},
		{"a=5", "b", "a=5", "n"},
		{"a=5", "A", "a=5", "n"},
		{"a=0", "a a", "", "yn"},
		{"a=5 b=3", "a", "b=3", "y"},
		{"a=5 b=3", "b", "a=5", "y"},
		{"a=5 b=3", "a b", "", "yy"},
		{"a=5 a=3", "a a", "", "yn"},
		{"a=1 b=1 c=1", "b a", "c=1", "yy"},
		{seven, "a", "b=2 c=3 d=4 e=5 f=6 g=7", "y"},
		{seven, "b", "a=1 c=3 d=4 e=5 f=6 g=7", "y"},
		{seven, "d", "a=1 b=2 c=3 e=5 f=6 g=7", "y"},
		{seven, "g", "a=1 b=2 c=3 d=4 e=5 f=6", "y"},
		{seven, "a b c", "d=4 e=5 f=6 g=7", "yyy"},
		{seven, "g f e h g", "a=1 b=2 c=3 d=4", "yyynn"},
		{seven, "d a g b f c e", "", "yyyyyyy"},
		// the last one comes to stand where one went, and must go up from there
		{"a=1 b=10 c=2 d=11 e=12 f=3 g=4 h=13 i=14 j=15 k=16 l=5", "h", "a=1 c=2 f=3 g=4 l=5 b=10 d=11 e=12 i=14 j=15 k=16", "y"},
	} {
		x := with(t, c.put)
		for i, k := range strings.Fields(c.drop) {
			if x.Drop(k) != (c.there[i] == 'y') {
				t.Errorf("%s, %s: Drop %d of %s", c.put, c.drop, i, k)
			}
			if n, ok := x.Get(k); n != 0 || ok {
				t.Errorf("%s, %s: %s is there still", c.put, c.drop, k)
			}
		}
		asked(t, x, dueList(c.all))
		put(t, x, "a=100")
		if n, ok := x.Get("a"); n != 100 || !ok {
			t.Errorf("%s, %s: a is at %d, %t", c.put, c.drop, n, ok)
		}
	}
}

// P11.1: each key of each heap of few goes, and all others stay in order.
func TestDropAnyOfFew(t *testing.T) {
	rnd := rand.New(rand.NewSource(11))
	for n := 1; n <= 20; n++ {
		for gone := range n {
			for range 10 {
				x := New()
				var left []api.Due
				for i, when := range rnd.Perm(n) {
					d := api.Due{When: int64(when / 2), Key: strconv.Itoa(i)}
					put(t, x, d.Key+"="+strconv.Itoa(when/2))
					if i != gone {
						left = append(left, d)
					}
				}
				if !x.Drop(strconv.Itoa(gone)) {
					t.Fatalf("%d of %d wasn't there", gone, n)
				}
				slices.SortFunc(left, order)
				holds(t, x, left)
			}
		}
	}
}

// order is that of the document.
func order(a, b api.Due) int {
	return cmp.Or(cmp.Compare(a.When, b.When), strings.Compare(a.Key, b.Key))
}

// P11.1: what is due is so at its own time, and not ahead of it.
func TestDueAtItsTime(t *testing.T) {
	x := with(t, "a=5 b=3 c=5 d=0 e=4611686018427387904")
	for _, c := range []struct {
		now  int64
		most int
		keys string
	}{
		{-1, 9, ""}, {math.MinInt64, 9, ""}, {0, 9, "d"}, {2, 9, "d"}, {3, 9, "d b"}, {4, 9, "d b"}, {5, 9, "d b a c"}, {6, 9, "d b a c"},
		{api.MaxTime - 1, 9, "d b a c"}, {api.MaxTime, 9, "d b a c e"}, {math.MaxInt64, 9, "d b a c e"},
		{5, 0, ""}, {5, -1, ""}, {5, math.MinInt, ""}, {5, 1, "d"}, {5, 2, "d b"}, {5, 3, "d b a"}, {5, 4, "d b a c"}, {5, 5, "d b a c"},
		{5, math.MaxInt, "d b a c"}, {math.MaxInt64, math.MaxInt, "d b a c e"}, {math.MaxInt64, 4, "d b a c"}, {3, 1, "d"},
	} {
		for range 2 { // they stay
			if l := x.Due(c.now, c.most); !slices.Equal(l, strings.Fields(c.keys)) {
				t.Errorf("at %d, at most %d: %q", c.now, c.most, l)
			}
		}
	}
	asked(t, x, dueList("d=0 b=3 a=5 c=5 e=4611686018427387904"))
}

// P11.1: an empty text is a key as others are, and time 0 one as others.
func TestTheEmptyKey(t *testing.T) {
	x := New()
	if e := x.Put("", 0); e != api.OK {
		t.Error(e)
	}
	asked(t, x, []api.Due{{}})
	if n, ok := x.Get(""); n != 0 || !ok {
		t.Error(n, ok)
	}
	if d, ok := x.Next(); d != (api.Due{}) || !ok {
		t.Error(d, ok)
	}
	put(t, x, "a=0")
	asked(t, x, dueList("=0 a=0"))
	x.Put("", 1)
	asked(t, x, dueList("a=0 =1"))
	if !x.Drop("") || x.Drop("") {
		t.Error("Drop")
	}
	asked(t, x, dueList("a=0"))
}

// P11.1: none is there any more, and all can come again.
func TestClear(t *testing.T) {
	x := New()
	x.Clear()
	asked(t, x, nil)
	for range 3 {
		put(t, x, "f=6 e=5 d=4 a=5")
		holds(t, x, dueList("d=4 a=5 e=5 f=6"))
		x.Clear()
		asked(t, x, nil)
		for _, k := range []string{"a", "d", "e", "f"} {
			if n, ok := x.Get(k); n != 0 || ok || x.Drop(k) {
				t.Errorf("%s is there", k)
			}
		}
	}
	put(t, x, "b=2 a=3")
	asked(t, x, dueList("b=2 a=3"))
}

// P11.1, P1: keys of any bytes and of any length, each once, in order by
// their bytes.
func TestOddKeys(t *testing.T) {
	if !slices.IsSorted(odd) {
		t.Fatal("the test's own keys aren't in order")
	}
	x := New()
	var want []api.Due
	for i := len(odd) - 1; i >= 0; i-- {
		for range 2 {
			if e := x.Put(odd[i], 7); e != api.OK {
				t.Fatal(e)
			}
		}
		want = slices.Insert(want, 0, api.Due{When: 7, Key: odd[i]})
		holds(t, x, want)
	}
	for i, k := range odd {
		if !x.Drop(k) || x.Drop(k) {
			t.Errorf("%.20q wasn't there", k)
		}
		holds(t, x, want[i+1:])
	}
}

// P11.1, P1: many keys, and no call that takes long, or that ends by its
// depth; least of all one that asks for few of many.
func TestManyKeys(t *testing.T) {
	const many = 100000
	x := New()
	for i := range many { // some stand behind one another in no order at all
		if e := x.Put(strconv.Itoa(i), int64(i)*7919%many); e != api.OK {
			t.Fatal(e)
		}
	}
	for i := range many {
		if i%2 == 1 && !x.Drop(strconv.Itoa(i)) {
			t.Fatal(i, "wasn't there")
		}
	}
	var want []api.Due
	for i := 0; i < many; i += 2 {
		x.Put(strconv.Itoa(i), int64(many-i))
		want = append(want, api.Due{When: int64(many - i), Key: strconv.Itoa(i)})
	}
	slices.Reverse(want)
	holds(t, x, want)
	for _, d := range want {
		if l := x.Due(api.MaxTime, 1); len(l) != 1 || l[0] != d.Key {
			t.Fatal(l, "not", d.Key)
		}
		if l := x.Due(d.When-1, many); len(l) != 0 {
			t.Fatal(l, "ahead of", d.Key)
		}
		if got, ok := x.Next(); got != d || !ok {
			t.Fatal(got, ok, "not", d)
		}
		x.Drop(d.Key)
	}
	holds(t, x, nil)
}

// plain is Expiry another way: a map, put in order whenever it is asked.
type plain map[string]int64

func (p plain) all() []api.Due {
	var l []api.Due
	for k, n := range p {
		l = append(l, api.Due{When: n, Key: k})
	}
	slices.SortFunc(l, order)
	return l
}

func (p plain) drop(key string) bool {
	_, there := p[key]
	delete(p, key)
	return there
}

// P11.1: many calls, held against a plain map.
func TestManyCalls(t *testing.T) {
	for seed := range 80 {
		rnd := rand.New(rand.NewSource(int64(seed)))
		x, p := New(), plain{}
		for range 400 {
			k := strconv.Itoa(rnd.Intn(1 + seed))
			when := int64(rnd.Intn(30)) - 1
			switch n := rnd.Intn(60); {
			case n < 40:
				e := x.Put(k, when)
				if when < 0 && e != api.ErrTime || when >= 0 && e != api.OK {
					t.Fatalf("seed %d: Put of %s at %d: %d", seed, k, when, e)
				}
				if when >= 0 {
					p[k] = when
				}
			case n < 59:
				if x.Drop(k) != p.drop(k) {
					t.Fatalf("seed %d: Drop of %s", seed, k)
				}
			default:
				x.Clear()
				clear(p)
			}
			want, there := p[k]
			if n, ok := x.Get(k); n != want || ok != there {
				t.Fatalf("seed %d: Get of %s: %d, %t", seed, k, n, ok)
			}
			all := p.all()
			holds(t, x, all)
			dueIs(t, x, all, int64(rnd.Intn(32))-1, rnd.Intn(len(all)+3)-1)
		}
	}
}

// P2: two that were used alike answer alike, and neither knows of the other.
func TestEachIsItsOwn(t *testing.T) {
	a, b, other := New(), New(), New()
	for i := range 500 {
		k, when := strconv.Itoa(i*i%67), int64(i*i*i%41)
		if a.Put(k, when) != b.Put(k, when) {
			t.Fatal("Put of", k)
		}
		other.Drop(k)
		other.Put(strconv.Itoa(i), 1)
		other.Clear()
		if i%3 == 0 && a.Drop(strconv.Itoa(i%67)) != b.Drop(strconv.Itoa(i%67)) {
			t.Fatal("Drop of", i%67)
		}
		all := b.All()
		holds(t, a, all)
		dueIs(t, a, all, int64(i%41), i%13)
		holds(t, other, nil)
	}
	a.Clear()
	if b.Len() == 0 || a.Len() != 0 {
		t.Error(a.Len(), b.Len())
	}
}

// P2: all is the same whatever the way to it was.
func TestTheWayDoesNotCount(t *testing.T) {
	rnd := rand.New(rand.NewSource(3))
	var want []api.Due
	for i := range 40 {
		want = append(want, api.Due{When: int64(i / 4), Key: string(rune('A' + i))})
	}
	for range 50 {
		x := New()
		for _, i := range rnd.Perm(len(want)) {
			x.Put(want[rnd.Intn(i+1)].Key, int64(rnd.Intn(20)))
			x.Drop(want[rnd.Intn(len(want))].Key)
		}
		for _, i := range rnd.Perm(len(want)) {
			x.Put(want[i].Key, want[i].When)
		}
		holds(t, x, want)
		dueIs(t, x, want, 5, 10)
	}
}

// P11.1: what is answered is the asker's, and stays as it is; its spare room, too.
func TestAnswersAreNew(t *testing.T) {
	x := with(t, "a=5 b=3 c=4")
	all, due := x.All(), x.Due(9, 9)
	first, keys := x.All(), x.Due(9, 9)
	for i := range first[:cap(first)] {
		first[:cap(first)][i] = api.Due{When: 1, Key: "x"}
	}
	for i := range keys[:cap(keys)] {
		keys[:cap(keys)][i] = "x"
	}
	asked(t, x, dueList("b=3 c=4 a=5"))
	x.Put("a", 1)
	x.Drop("b")
	x.Put("d", 2)
	if !slices.Equal(all, dueList("b=3 c=4 a=5")) || !slices.Equal(due, []string{"b", "c", "a"}) {
		t.Error(all, due)
	}
	asked(t, x, dueList("a=1 d=2 c=4"))
}
