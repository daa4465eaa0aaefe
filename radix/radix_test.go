package radix

import (
	"math"
	"math/rand"
	"slices"
	"strings"
	"testing"

	"nearhand/api"
)

// The calls' signatures are part of what is promised.
var (
	_ func() *Tree                      = New
	_ func(*Tree, string, int64) bool   = (*Tree).Put
	_ func(*Tree, string) bool          = (*Tree).Drop
	_ func(*Tree, string) (int64, bool) = (*Tree).Get
	_ func(*Tree) int                   = (*Tree).Len
	_ func(*Tree, string) []api.Mark    = (*Tree).Above
	_ func(*Tree, string) []api.Mark    = (*Tree).Walk
	_ func(*Tree, string) bool          = (*Tree).Over
	_ func(*Tree) int                   = (*Tree).Nodes
)

var times = strings.Repeat

// brief is the beginning of what is told of a fault.
func brief(s string) string { return s[:min(len(s), 80)] }

// of is a tree of these keys, whose numbers are their places.
func of(keys ...string) *Tree {
	t := New()
	for i, k := range keys {
		t.Put(k, int64(i))
	}
	return t
}

// marks are these keys, each with its place among all.
func marks(all []string, keys ...string) []api.Mark {
	var l []api.Mark
	for _, k := range keys {
		l = append(l, api.Mark{Key: k, N: int64(slices.Index(all, k))})
	}
	return l
}

// model is what a tree must be, in another way.
type model map[string]int64

// pick are the marks of which something holds, in order.
func (m model) pick(holds func(key string) bool) []api.Mark {
	var l []api.Mark
	for k, n := range m {
		if holds(k) {
			l = append(l, api.Mark{Key: k, N: n})
		}
	}
	slices.SortFunc(l, func(a, b api.Mark) int { return strings.Compare(a.Key, b.Key) })
	return l
}

// nodes are how many there must be, by what P7.3 says.
func (m model) nodes() int {
	texts := map[string]bool{"": true}
	for a := range m {
		texts[a] = true
		for b := range m {
			i := 0
			for i < min(len(a), len(b)) && a[i] == b[i] {
				i++
			}
			if i < min(len(a), len(b)) {
				texts[a[:i]] = true
			}
		}
	}
	return len(texts)
}

// hold holds what a tree answers of a key against the model.
func (m model) hold(t *testing.T, x *Tree, key string) {
	t.Helper()
	n, ok := m[key]
	if got, there := x.Get(key); got != n || there != ok {
		t.Fatalf("Get of %q: %d, %t, not %d, %t", brief(key), got, there, n, ok)
	}
	above := m.pick(func(k string) bool { return strings.HasPrefix(key, k) })
	if got := x.Above(key); !slices.Equal(got, above) {
		t.Fatalf("Above of %q: %v, not %v", brief(key), got, above)
	}
	below := m.pick(func(k string) bool { return strings.HasPrefix(k, key) })
	if got := x.Walk(key); !slices.Equal(got, below) {
		t.Fatalf("Walk of %q: %v, not %v", brief(key), got, below)
	}
	if got, over := x.Over(key), len(above)+len(below) > 0; got != over {
		t.Fatalf("Over of %q: %t", brief(key), got)
	}
}

// count holds how many keys and nodes there are against the model.
func (m model) count(t *testing.T, x *Tree) {
	t.Helper()
	if x.Len() != len(m) || x.Nodes() != m.nodes() {
		t.Fatalf("%d keys, %d nodes, not %d, %d", x.Len(), x.Nodes(), len(m), m.nodes())
	}
}

// P7.1
func TestNewHasNoKeys(t *testing.T) {
	x := New()
	for _, k := range []string{"", "a", "\x00", times("a", 1000)} {
		model{}.hold(t, x, k)
		if x.Drop(k) {
			t.Errorf("Drop of %q", brief(k))
		}
	}
	if x.Len() != 0 || x.Nodes() != 1 {
		t.Error(x.Len(), x.Nodes())
	}
	if New() == New() {
		t.Error("one for two")
	}
}

// P7.1: a key that is there gets another number, and isn't new.
func TestPutOfAKeyThatIsThere(t *testing.T) {
	for _, k := range []string{"", "a", "ab", "\x00\xff"} {
		x := New()
		for i, n := range []int64{7, 0, math.MinInt64, math.MaxInt64, math.MaxInt64, -1} {
			if x.Put(k, n) != (i == 0) {
				t.Errorf("Put of %q, %d", k, n)
			}
			if got, ok := x.Get(k); got != n || !ok || x.Len() != 1 {
				t.Errorf("%q: %d, %t, %d keys", k, got, ok, x.Len())
			}
		}
		if !x.Drop(k) || x.Drop(k) || x.Len() != 0 || x.Nodes() != 1 {
			t.Errorf("Drop of %q: %d, %d", k, x.Len(), x.Nodes())
		}
		if n, ok := x.Get(k); n != 0 || ok {
			t.Errorf("%q: %d, %t", k, n, ok)
		}
		if !x.Put(k, 0) {
			t.Errorf("%q isn't new", k)
		}
		if n, ok := x.Get(k); n != 0 || !ok {
			t.Errorf("%q: %d, %t", k, n, ok)
		}
	}
}

// P7.1: a beginning of keys, and what goes on, are no keys.
func TestKeysThatAreNotThere(t *testing.T) {
	x := of("user:1", "user:2", "user:22")
	for _, k := range []string{"", "u", "user:", "user:3", "user:11", "user:222", "v", "user:1\x00", "User:1"} {
		if n, ok := x.Get(k); n != 0 || ok || x.Drop(k) || x.Len() != 3 || x.Nodes() != 5 {
			t.Errorf("%q: %d, %t", k, n, ok)
		}
	}
	// The text where keys part is a key of its own only once it is Put.
	if !x.Put("user:", 9) || x.Put("user:", 8) || x.Len() != 4 || x.Nodes() != 5 {
		t.Error(x.Len(), x.Nodes())
	}
	if n, ok := x.Get("user:"); n != 8 || !ok {
		t.Error(n, ok)
	}
	if !x.Drop("user:") || x.Drop("user:") || x.Len() != 3 || x.Nodes() != 5 {
		t.Error(x.Len(), x.Nodes())
	}
	if n, ok := x.Get("user:"); n != 0 || ok {
		t.Error(n, ok)
	}
}

// P7.2
func TestAbove(t *testing.T) {
	keys := []string{"abc", "", "ab", "b", "abcde", "abd", "a\x00"}
	x := of(keys...)
	for _, c := range []struct {
		s string
		l []string
	}{
		{"", []string{""}}, {"a", []string{""}}, {"ab", []string{"", "ab"}}, {"abc", []string{"", "ab", "abc"}}, {"abcd", []string{"", "ab", "abc"}}, {"abcdef", []string{"", "ab", "abc", "abcde"}},
		{"abx", []string{"", "ab"}}, {"a\x00\x00", []string{"", "a\x00"}}, {"c", []string{""}}, {"bb", []string{"", "b"}}, {"AB", []string{""}},
	} {
		if l := x.Above(c.s); !slices.Equal(l, marks(keys, c.l...)) {
			t.Errorf("%q: %v", c.s, l)
		}
	}
	x.Drop("")
	if l := x.Above(""); len(l) != 0 {
		t.Error(l)
	}
	if l := x.Above("a"); len(l) != 0 {
		t.Error(l)
	}
	if l := x.Above("abc"); !slices.Equal(l, marks(keys, "ab", "abc")) {
		t.Error(l)
	}
}

// P7.2: in order by the bytes as numbers from 0 to 255, a beginning ahead.
func TestWalk(t *testing.T) {
	keys := []string{"b", "ab", "a\xff", "a", "a\x00", "", "\xff", "\x00", "a\x7f", "a\x80", "ab\x00", "aB", "abc", "é", "z"}
	order := []string{"", "\x00", "a", "a\x00", "aB", "ab", "ab\x00", "abc", "a\x7f", "a\x80", "a\xff", "b", "z", "é", "\xff"}
	x := of(keys...)
	if l := x.Walk(""); !slices.Equal(l, marks(keys, order...)) {
		t.Error(l)
	}
	for _, c := range []struct {
		s string
		l []string
	}{
		{"a", order[2:11]}, {"ab", []string{"ab", "ab\x00", "abc"}}, {"abc", []string{"abc"}}, {"abcd", nil}, {"aa", nil}, {"ac", nil}, {"c", nil}, {"\xc3", []string{"é"}}, {"\xff", []string{"\xff"}}, {"\xff\xff", nil}, {"\x00\x00", nil},
	} {
		if l := x.Walk(c.s); !slices.Equal(l, marks(keys, c.l...)) {
			t.Errorf("%q: %v", c.s, l)
		}
	}
	y := of("roman")
	for _, s := range []string{"", "r", "rom", "roma", "roman"} {
		if l := y.Walk(s); len(l) != 1 || l[0].Key != "roman" {
			t.Errorf("%q: %v", s, l)
		}
	}
	for _, s := range []string{"romans", "rum", "o", "romaN"} {
		if l := y.Walk(s); len(l) != 0 {
			t.Errorf("%q: %v", s, l)
		}
	}
}

// P7.2
func TestOver(t *testing.T) {
	x := of("abc", "abd", "x")
	for _, s := range []string{"", "a", "ab", "abc", "abd", "abcz", "abc\x00", "x", "xyz"} {
		if !x.Over(s) {
			t.Errorf("%q", s)
		}
	}
	for _, s := range []string{"b", "abe", "ac", "abb", "\x00", "aabc", "X", "bc"} {
		if x.Over(s) {
			t.Errorf("%q", s)
		}
	}
	x.Put("", 1)
	for _, s := range []string{"", "b", "abe", "\x00", "X"} {
		if !x.Over(s) {
			t.Errorf("%q", s)
		}
	}
	for _, k := range []string{"", "abc", "abd", "x"} {
		x.Drop(k)
	}
	if x.Over("") || x.Over("a") || x.Over("abc") {
		t.Error("over none")
	}
}

// P7.3: of known keys.
func TestNodes(t *testing.T) {
	for _, c := range []struct {
		keys string
		n    int
	}{
		{"a,ab,b", 4}, {"a", 2}, {"ab,ac", 4}, {"ab,ac,ad", 5}, {"ab,ac,a", 4}, {"ab,b", 3}, {"a,ab,abc", 4}, {"abc,abd,ace", 6}, {"abcd,abce,abff,agg", 8}, {"romane,romanus,romulus,rubens,ruber", 10}, {"a,b,c,d", 5},
	} {
		keys := strings.Split(c.keys, ",")
		x := of(keys...)
		if x.Nodes() != c.n {
			t.Errorf("%s: %d, not %d", c.keys, x.Nodes(), c.n)
		}
		// The empty text's node is there, be it a key or not.
		if !x.Put("", 0) || x.Nodes() != c.n || x.Len() != len(keys)+1 {
			t.Errorf("%s, and none: %d, not %d", c.keys, x.Nodes(), c.n)
		}
		if !x.Drop("") || x.Nodes() != c.n || x.Len() != len(keys) {
			t.Errorf("%s, without: %d, not %d", c.keys, x.Nodes(), c.n)
		}
	}
	x := New()
	if x.Put("", 0); x.Nodes() != 1 {
		t.Error(x.Nodes())
	}
}

// P7.3: the nodes where keys part go when they part no more.
func TestNodesOfDroppedKeys(t *testing.T) {
	x := of("abcd", "abce", "abff")
	for i, c := range []struct {
		key  string
		drop bool
		n    int
	}{
		{"", false, 6}, {"abcd", true, 4}, {"abcd", false, 6}, {"abff", true, 4}, {"abce", true, 2}, {"ab", false, 3}, {"abcd", true, 2}, {"ab", true, 1}, {"", true, 1}, {"abc", false, 2}, {"abcdef", false, 3}, {"abcd", false, 4}, {"abcd", true, 3}, {"abc", true, 2},
	} {
		done := false
		if c.drop {
			done = x.Drop(c.key)
		} else {
			done = x.Put(c.key, 1)
		}
		if !done || x.Nodes() != c.n {
			t.Errorf("%d, %q: %t, %d, not %d", i, c.key, done, x.Nodes(), c.n)
		}
	}
}

// P7.1, P7.2, P7.3: all bytes, put and dropped in whichever order.
func TestAllBytes(t *testing.T) {
	r := rand.New(rand.NewSource(3))
	for _, ahead := range []string{"", "k", "\x00", "\xff\xff"} {
		x, m := New(), model{}
		for _, b := range r.Perm(256) {
			k := ahead + string([]byte{byte(b)})
			if !x.Put(k, int64(b)) {
				t.Errorf("%q isn't new", k)
			}
			m[k] = int64(b)
		}
		m.count(t, x)
		for b := range 256 {
			m.hold(t, x, ahead+string([]byte{byte(b)}))
			m.hold(t, x, ahead+string([]byte{byte(b), 0}))
		}
		m.hold(t, x, ahead)
		for i, b := range r.Perm(256) {
			k := ahead + string([]byte{byte(b)})
			if !x.Drop(k) || x.Drop(k) {
				t.Errorf("Drop of %q", k)
			}
			delete(m, k)
			m.hold(t, x, k)
			if i%16 == 0 || i > 250 {
				m.hold(t, x, ahead)
				m.count(t, x)
			}
		}
		if x.Len() != 0 || x.Nodes() != 1 {
			t.Error(x.Len(), x.Nodes())
		}
	}
}

// all are all texts of at most so many of these letters.
func all(letters string, n int) []string {
	l := []string{""}
	for i := 0; len(l[i]) < n; i++ {
		for j := range len(letters) {
			l = append(l, l[i]+letters[j:j+1])
		}
	}
	return l
}

// P7.1, P7.2, P7.3: each set of keys among the shortest, and each of these gone.
func TestAllSmallTrees(t *testing.T) {
	keys := all("ab", 3)[:11]
	asked := all("ab", 4)
	for set := range 1 << len(keys) {
		x, m := New(), model{}
		for i, k := range keys {
			if set>>i&1 == 1 {
				x.Put(k, int64(set))
				m[k] = int64(set)
			}
		}
		m.count(t, x)
		for _, k := range asked {
			m.hold(t, x, k)
		}
		gone := keys[set%len(keys)]
		if _, ok := m[gone]; x.Drop(gone) != ok {
			t.Fatalf("Drop of %q", gone)
		}
		delete(m, gone)
		m.count(t, x)
		for _, k := range asked {
			m.hold(t, x, k)
		}
	}
}

// anyKey is some key, often one that is there, or like one.
func anyKey(r *rand.Rand, m model) string {
	var b []byte
	letters := []string{"ab", "ab\x00\xff", "abcdefghij"}[r.Intn(3)]
	for range r.Intn([]int{3, 8, 40}[r.Intn(3)]) {
		b = append(b, letters[r.Intn(len(letters))])
	}
	known := m.pick(func(string) bool { return true })
	if len(known) == 0 || r.Intn(3) == 0 {
		return string(b)
	}
	k := known[r.Intn(len(known))].Key
	if r.Intn(2) == 0 {
		return k[:r.Intn(len(k)+1)] + string(b[:min(len(b), r.Intn(4))])
	}
	return k
}

// P7.1, P7.2, P7.3: many calls, held against the model.
func TestManyCalls(t *testing.T) {
	r := rand.New(rand.NewSource(5))
	for range 60 {
		x, m := New(), model{}
		puts := 1 + r.Intn(9)
		for range 300 {
			k := anyKey(r, m)
			_, there := m[k]
			if r.Intn(10) < puts {
				n := r.Int63() - r.Int63()
				if x.Put(k, n) == there {
					t.Fatalf("Put of %q: %t", k, !there)
				}
				m[k] = n
			} else {
				if x.Drop(k) != there {
					t.Fatalf("Drop of %q: %t", k, there)
				}
				delete(m, k)
			}
			m.hold(t, x, k)
			m.hold(t, x, anyKey(r, m))
		}
		m.count(t, x)
		m.hold(t, x, "")
		for _, k := range m.pick(func(string) bool { return true }) {
			x.Drop(k.Key)
			delete(m, k.Key)
			m.hold(t, x, k.Key)
		}
		m.count(t, x)
	}
}

// P2: the answers are those of the keys that are there, in whichever order they
// came, and whichever went.
func TestOrderOfCallsDoesNotMatter(t *testing.T) {
	r := rand.New(rand.NewSource(9))
	keys, others := all("ab", 5), all("abc", 4)
	m := model{}
	for i, k := range keys {
		if i%3 != 0 {
			m[k] = int64(i)
		}
	}
	for range 20 {
		x := New()
		for _, i := range r.Perm(len(others)) {
			x.Put(others[i], -1)
		}
		for _, i := range r.Perm(len(keys)) {
			if i%3 != 0 {
				x.Put(keys[i], int64(i))
			}
		}
		for _, i := range r.Perm(len(others)) {
			if _, ok := m[others[i]]; !ok {
				x.Drop(others[i])
			}
		}
		m.count(t, x)
		for _, k := range others {
			m.hold(t, x, k)
		}
	}
}

// Trees are apart from one another.
func TestTreesAreApart(t *testing.T) {
	x, y := of("a", "ab"), of("b")
	x.Drop("a")
	y.Put("ab", 7)
	if x.Len() != 1 || y.Len() != 2 || x.Over("b") || y.Over("ac") {
		t.Error(x.Len(), y.Len())
	}
	if n, ok := x.Get("ab"); n != 1 || !ok {
		t.Error(n, ok)
	}
}

// An answer is new memory, spare room too, and isn't the tree's.
func TestAnswersAreNew(t *testing.T) {
	keys := []string{"a", "ab", "abc", "b"}
	x := of(keys...)
	seen := map[*api.Mark]bool{}
	for _, ask := range []func(string) []api.Mark{x.Above, x.Walk, x.Above, x.Walk} {
		for _, s := range []string{"a", "abc", ""} {
			l := ask(s)
			l = l[:cap(l)]
			for i := range l {
				if seen[&l[i]] {
					t.Error("shared")
				}
				seen[&l[i]] = true
				l[i] = api.Mark{Key: "x", N: 99}
			}
		}
	}
	if l := x.Walk(""); !slices.Equal(l, marks(keys, keys...)) {
		t.Error(l)
	}
}

// A key may be made of bytes that are written over behind the call.
func TestKeysAreTheirOwn(t *testing.T) {
	b := []byte("abcd")
	x := New()
	x.Put(string(b), 1)
	x.Put(string(b[:2]), 2)
	copy(b, "wxyz")
	if l := x.Walk(""); !slices.Equal(l, []api.Mark{{Key: "ab", N: 2}, {Key: "abcd", N: 1}}) {
		t.Error(l)
	}
}

// P1: keys each of which is the beginning of the next, in all orders.
func TestDeepTrees(t *testing.T) {
	const n = 4000
	s := times("a", n)
	r := rand.New(rand.NewSource(13))
	order := r.Perm(n + 1)
	rising := slices.Sorted(slices.Values(order))
	falling := slices.Clone(rising)
	slices.Reverse(falling)
	for _, puts := range [][]int{rising, falling, order} {
		x := New()
		for _, i := range puts {
			if !x.Put(s[:i], int64(i)) {
				t.Fatal(i)
			}
		}
		if x.Len() != n+1 || x.Nodes() != n+1 {
			t.Fatal(x.Len(), x.Nodes())
		}
		for _, l := range [][]api.Mark{x.Walk(""), x.Above(s), x.Above(s + "b")} {
			for i, m := range l {
				if len(l) != n+1 || m.N != int64(i) || len(m.Key) != i {
					t.Fatal(i, len(l), m.N, len(m.Key))
				}
			}
		}
		for _, i := range order {
			if !x.Drop(s[:i]) || x.Drop(s[:i]) {
				t.Fatal(i)
			}
		}
		if x.Len() != 0 || x.Nodes() != 1 {
			t.Fatal(x.Len(), x.Nodes())
		}
	}
}

// P1: a tree as deep as it is, with a key aside at each step.
func TestDeepTreesWithForks(t *testing.T) {
	const n = 2000
	s := times("b", n)
	x := New()
	for i := range n {
		x.Put(s[:i]+"a", int64(i))
		x.Put(s[:i]+"c", int64(i))
	}
	// Each step has two keys, and a fork; the first fork is at the empty text.
	if x.Len() != 2*n || x.Nodes() != 3*n {
		t.Fatal(x.Len(), x.Nodes())
	}
	l := x.Walk("")
	if len(l) != 2*n || l[0].Key != "a" || l[n].Key != s[:n-1]+"c" || l[2*n-1].Key != "c" {
		t.Fatal(len(l))
	}
	if len(x.Above(s)) != 0 || !x.Over(s[:n-1]) || x.Over(s) {
		t.Error("Above, Over")
	}
	for i := range n {
		x.Drop(s[:i] + "a")
	}
	// Each step has a key, and each but the last one a fork.
	if x.Len() != n || x.Nodes() != n+n-1 {
		t.Error(x.Len(), x.Nodes())
	}
}

// P1: a great key, and many small ones.
func TestGreatTrees(t *testing.T) {
	great := times("\x00k", 5000000)
	x := of(great+"a", great+"b", great)
	if x.Len() != 3 || x.Nodes() != 4 || len(x.Above(great+"ab")) != 2 || len(x.Walk(great[:7])) != 3 || !x.Over(great+"c") {
		t.Error(x.Len(), x.Nodes())
	}
	for i := range 100000 {
		s := "x"
		for n := i * 7919 % 100003; n > 0; n /= 10 {
			s += string(rune('0' + n%10))
		}
		x.Put(s, int64(i))
	}
	all := x.Walk("x")
	if x.Len() != len(all)+3 || !slices.IsSortedFunc(all, func(a, b api.Mark) int { return strings.Compare(a.Key, b.Key) }) {
		t.Error(x.Len(), len(all))
	}
	for _, m := range all {
		if !x.Drop(m.Key) {
			t.Fatal(m.Key)
		}
	}
	if !x.Drop(great) || !x.Drop(great+"a") || x.Len() != 1 || x.Nodes() != 2 {
		t.Error(x.Len(), x.Nodes())
	}
}
