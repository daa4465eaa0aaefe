package prefix

import (
	"math"
	"math/rand"
	"slices"
	"strconv"
	"strings"
	"testing"

	"nearhand/radix"
)

// The calls' signatures are part of what is promised.
var (
	_ func() *Prefixes                  = New
	_ func(*Prefixes, string, int) bool = (*Prefixes).Add
	_ func(*Prefixes, int) int          = (*Prefixes).Drop
	_ func(*Prefixes, string) []int     = (*Prefixes).Match
	_ func(*Prefixes, int) []string     = (*Prefixes).Of
	_ func(*Prefixes) int               = (*Prefixes).Len
	_ func(*Prefixes) int               = (*Prefixes).Nodes
)

// noId is what no test adds.
const noId = 987654321

// oddTexts are prefixes that are easily taken for another one, or for none, in
// order by their bytes.
var oddTexts = []string{"", "\x00", "\x00\x00", "\x00a", " ", "A", "a", "a\x00", "a ", "aA", "ab", strings.Repeat("k", 99999), strings.Repeat("k", 100000), "\x7f", "\x80", "\xa9", "\xc3", "é", "\xff", "\xff\xfe", "\xff\xff"}

// oddIds are numbers that are easily taken for another one, or for none, rising.
var oddIds = []int{math.MinInt, math.MinInt + 1, math.MinInt32 - 1, math.MinInt32, -256, -10, -9, -1, 0, 1, 2, 9, 10, 255, 256, math.MaxInt32, math.MaxInt32 + 1, math.MaxUint32, math.MaxUint32 + 1, math.MaxInt - 1, math.MaxInt}

// brief is the beginning of what is told of a fault.
func brief(s string) string { return strconv.Quote(s[:min(len(s), 80)]) }

// pair is a prefix and the number of a client.
type pair struct {
	prefix string
	id     int
}

// plain is Prefixes another way: a list of pairs, gone through each time.
type plain []pair

func (p *plain) add(prefix string, id int) bool {
	if slices.Contains(*p, pair{prefix, id}) {
		return false
	}
	*p = append(*p, pair{prefix, id})
	return true
}

func (p *plain) drop(id int) int {
	before := len(*p)
	*p = slices.DeleteFunc(*p, func(x pair) bool { return x.id == id })
	return before - len(*p)
}

func (p plain) match(key string) []int {
	ids := map[int]bool{}
	for _, x := range p {
		if len(x.prefix) <= len(key) && key[:len(x.prefix)] == x.prefix {
			ids[x.id] = true
		}
	}
	var l []int
	for id := range ids {
		l = append(l, id)
	}
	slices.Sort(l)
	return l
}

func (p plain) of(id int) []string {
	var l []string
	for _, x := range p {
		if x.id == id {
			l = append(l, x.prefix)
		}
	}
	slices.SortFunc(l, func(a, b string) int { return slices.Compare([]byte(a), []byte(b)) })
	return l
}

// tree is layer 7's of all prefixes.
func (p plain) tree() *radix.Tree {
	t := radix.New()
	for _, x := range p {
		t.Put(x.prefix, 1)
	}
	return t
}

// both have a call done by Prefixes and by plain, and hold the answers against
// each other.
type both struct {
	t *testing.T
	x *Prefixes
	p *plain
}

// bothOf are none.
func bothOf(t *testing.T) both { return both{t, New(), &plain{}} }

func (b both) add(prefix string, id int) {
	b.t.Helper()
	if got, want := b.x.Add(prefix, id), b.p.add(prefix, id); got != want {
		b.t.Fatalf("Add of %s, %d: %t", brief(prefix), id, got)
	}
}

func (b both) drop(id int) {
	b.t.Helper()
	if got, want := b.x.Drop(id), b.p.drop(id); got != want {
		b.t.Fatalf("Drop of %d: %d, not %d", id, got, want)
	}
}

func (b both) match(keys ...string) {
	b.t.Helper()
	for _, key := range keys {
		if got, want := b.x.Match(key), b.p.match(key); !slices.Equal(got, want) {
			b.t.Fatalf("Match of %s: %v, not %v", brief(key), got, want)
		}
	}
}

func (b both) of(ids ...int) {
	b.t.Helper()
	for _, id := range ids {
		if got, want := b.x.Of(id), b.p.of(id); !slices.Equal(got, want) {
			b.t.Fatalf("Of %d: %s, not %s", id, brief(strings.Join(got, " ")), brief(strings.Join(want, " ")))
		}
	}
}

func (b both) count() {
	b.t.Helper()
	if t := b.p.tree(); b.x.Len() != t.Len() || b.x.Nodes() != t.Nodes() {
		b.t.Fatalf("%d prefixes, %d nodes, not %d, %d", b.x.Len(), b.x.Nodes(), t.Len(), t.Nodes())
	}
}

// pairsOf adds words, each a prefix and behind its last colon a client's number.
func pairsOf(t *testing.T, words string) *Prefixes {
	t.Helper()
	p := New()
	for _, w := range strings.Fields(words) {
		at := strings.LastIndexByte(w, ':')
		id, err := strconv.Atoi(w[at+1:])
		if err != nil {
			t.Fatal(err)
		}
		p.Add(w[:at], id)
	}
	return p
}

// digits are numbers as one text.
func digits(ids []int) string {
	var l []string
	for _, id := range ids {
		l = append(l, strconv.Itoa(id))
	}
	return strings.Join(l, ",")
}

// P15.1
func TestNewHasNone(t *testing.T) {
	b := bothOf(t)
	b.match(oddTexts...)
	b.of(oddIds...)
	b.count()
	for _, id := range oddIds {
		b.drop(id)
	}
	b.count()
	if New() == New() {
		t.Error("one for two")
	}
}

// P15.1: the document's example.
func TestExample(t *testing.T) {
	p := New()
	if !p.Add("user:", 2) || !p.Add("", 1) {
		t.Error("not new")
	}
	if l := p.Match("user:7"); digits(l) != "1,2" {
		t.Error(l)
	}
}

// P15.1: a pair is new once; a prefix of another client, and a client's other
// prefix, are other pairs.
func TestAdd(t *testing.T) {
	p := New()
	for i, c := range []struct {
		prefix string
		id     int
		added  bool
		len    int
	}{
		{"a", 1, true, 1}, {"a", 1, false, 1}, {"a", 2, true, 1}, {"a", 2, false, 1}, {"a", 1, false, 1},
		{"ab", 1, true, 2}, {"ab", 1, false, 2}, {"A", 1, true, 3}, {"", 1, true, 4}, {"", 1, false, 4},
		{"", 0, true, 4}, {"", 0, false, 4}, {"", -1, true, 4}, {"a", -1, true, 4}, {"a", -1, false, 4},
		{"a\x00", 1, true, 5}, {"a", 11, true, 5}, {"a1", 1, true, 6}, {"a1", 1, false, 6},
	} {
		if added := p.Add(c.prefix, c.id); added != c.added || p.Len() != c.len {
			t.Errorf("%d: %t, %d, not %t, %d", i, added, p.Len(), c.added, c.len)
		}
	}
}

// P15.1: a pair that has gone is new again.
func TestAddAgain(t *testing.T) {
	p := pairsOf(t, "a:1 a:2 b:1")
	p.Drop(1)
	if !p.Add("a", 1) || p.Add("a", 1) || !p.Add("b", 1) || p.Add("a", 2) {
		t.Error("new, or not")
	}
	p.Drop(2)
	if !p.Add("a", 2) || p.Len() != 2 || digits(p.Match("a")) != "1,2" {
		t.Error(p.Len(), p.Match("a"))
	}
}

// P15.1: of those clients whose prefixes are beginnings of the key, the empty
// one and the whole key too, each once, rising.
func TestMatch(t *testing.T) {
	for _, c := range []struct{ pairs, key, want string }{
		{"", "a", ""},
		{"", "", ""},
		{"a:1", "a", "1"},
		{"a:1", "ab", "1"},
		{"a:1", "", ""},
		{"a:1", "b", ""},
		{"a:1", "A", ""},
		{"a:1", "ba", ""},
		{"ab:1", "a", ""},
		{"ab:1", "ac", ""},
		{"ab:1", "abc", "1"},
		{":1", "", "1"},
		{":1", "a", "1"},
		{":1", "\x00", "1"},
		{":1 a:1", "a", "1"},
		{":1 a:1 ab:1 abc:1", "abc", "1"},
		{":1 a:2 ab:3 abc:4", "ab", "1,2,3"},
		{":4 a:3 ab:2 abc:1", "ab", "2,3,4"},
		{":4 a:3 ab:2 abc:1", "abcd", "1,2,3,4"},
		{":4 a:3 ab:2 abc:1", "", "4"},
		{"a:3 a:1 a:2", "ax", "1,2,3"},
		{"a:3 a:1 ab:2 ab:3 ab:4", "ab", "1,2,3,4"},
		{"a:10 a:9 ab:100 ab:-1 ab:0", "ab", "-1,0,9,10,100"},
		{"ab:1 ac:2 ad:3", "ac", "2"},
		{"ab:1 ac:2 ad:3", "a", ""},
		{"ab:1 ac:2 a:3", "ab", "1,3"},
		{"user:1:1 user:12:2 user::3 us:4", "user:12", "1,2,3,4"},
		{"user:1:1 user:12:2 user::3 us:4", "user:2", "3,4"},
	} {
		p := pairsOf(t, c.pairs)
		if s := digits(p.Match(c.key)); s != c.want {
			t.Errorf("%s, %q: %q, not %q", c.pairs, c.key, s, c.want)
		}
	}
}

// P15.1: all pairs of a client go, and how many pairs they were is answered: not
// how many prefixes went with them.
func TestDrop(t *testing.T) {
	for _, c := range []struct {
		pairs        string
		id, gone     int
		len          int
		match, other string
	}{
		{"", 1, 0, 0, "", ""},
		{"a:1", 1, 1, 0, "", ""},
		{"a:1", 2, 0, 1, "1", "a"},
		{"a:1", 0, 0, 1, "1", "a"},
		{"a:1", -1, 0, 1, "1", "a"},
		{"a:1", 11, 0, 1, "1", "a"},
		{"a:-1", -1, 1, 0, "", ""},
		{":0", 0, 1, 0, "", ""},
		{"a:2 a:1", 2, 1, 1, "1", "a"},
		{"a:2 a:1 a:3", 2, 1, 1, "1,3", "a"},
		{"a:2 a:2 a:1", 2, 1, 1, "1", "a"},
		{":2 a:2 ab:2", 2, 3, 0, "", ""},
		{":2 a:2 ab:2 a:1", 2, 3, 1, "1", "a"},
		{":2 a:1 ab:2", 2, 2, 1, "1", "a"},
		{"a:1 ab:1 x:2 y:2", 2, 2, 2, "1", "a ab"},
		{"ab:1 a:2", 2, 1, 1, "1", "ab"},
		{"ab:1 a:2 ab:2", 2, 2, 1, "1", "ab"},
	} {
		p := pairsOf(t, c.pairs)
		if n := p.Drop(c.id); n != c.gone {
			t.Errorf("%s, %d: %d, not %d", c.pairs, c.id, n, c.gone)
		}
		for range 2 {
			if s := digits(p.Match("abc")); s != c.match || p.Len() != c.len || len(p.Of(c.id)) != 0 {
				t.Errorf("%s, %d: %q, %d, %v", c.pairs, c.id, s, p.Len(), p.Of(c.id))
			}
			if s := strings.Join(p.Of(1), " "); s != c.other {
				t.Errorf("%s, %d: Of another one %q, not %q", c.pairs, c.id, s, c.other)
			}
			if p.Drop(c.id) != 0 {
				t.Errorf("%s, %d: there still", c.pairs, c.id)
			}
		}
	}
}

// P15.1: a client's prefixes, and no one else's, in order by their bytes,
// whichever order they came in.
func TestOf(t *testing.T) {
	for _, c := range []struct {
		pairs string
		id    int
		want  string
	}{
		{"", 1, ""},
		{"a:1", 1, "a"},
		{"a:1", 2, ""},
		{"a:1 a:1", 1, "a"},
		{"b:1 a:1", 1, "a b"},
		{"b:1 a:1 ab:1 B:1 a0:1", 1, "B a a0 ab b"},
		{"b:1 a:2 ab:1 ab:2", 1, "ab b"},
		{"b:1 a:2 ab:1 ab:2", 2, "a ab"},
		{"b:-1 a:-1 c:1", -1, "a b"},
		{"10:1 9:1 1:1", 1, "1 10 9"},
		{"c:1 c:2 c:3", 2, "c"},
	} {
		if s := strings.Join(pairsOf(t, c.pairs).Of(c.id), " "); s != c.want {
			t.Errorf("%s, %d: %q, not %q", c.pairs, c.id, s, c.want)
		}
	}
	if l := pairsOf(t, ":1").Of(1); len(l) != 1 || l[0] != "" {
		t.Error("the empty one:", l)
	}
}

// P15.1: each prefix counts once, and has its node once, however many clients
// are told of it; it counts till the last one leaves.
func TestLenAndNodes(t *testing.T) {
	for _, c := range []struct {
		pairs              string
		len, nodes         int
		lenLeft, nodesLeft int // without client 1
	}{
		{"", 0, 1, 0, 1},
		{":1", 1, 1, 0, 1},
		{":1 :2", 1, 1, 1, 1},
		{"a:1", 1, 2, 0, 1},
		{"a:1 a:2 a:3", 1, 2, 1, 2},
		{"a:1 ab:1 b:1", 3, 4, 0, 1},
		{"a:1 ab:2 b:1", 3, 4, 1, 2},
		{"ab:1 ac:2", 2, 4, 1, 2},
		{"ab:2 ac:2 a:1", 3, 4, 2, 4},
		{"ab:1 ac:1 ac:2 ad:2", 3, 5, 2, 4},
		{"user::1 user:1:1 user:2:2 user:22:2", 4, 5, 2, 3},
		{"abcd:1 abce:2 abff:2", 3, 6, 2, 4},
	} {
		p := pairsOf(t, c.pairs)
		if p.Len() != c.len || p.Nodes() != c.nodes {
			t.Errorf("%s: %d, %d, not %d, %d", c.pairs, p.Len(), p.Nodes(), c.len, c.nodes)
		}
		if p.Drop(1); p.Len() != c.lenLeft || p.Nodes() != c.nodesLeft {
			t.Errorf("%s, without 1: %d, %d, not %d, %d", c.pairs, p.Len(), p.Nodes(), c.lenLeft, c.nodesLeft)
		}
	}
}

// P15.1, P2: to be asked for changes nothing.
func TestAskingChangesNothing(t *testing.T) {
	p := pairsOf(t, "b:1 a:2 ab:1 :3")
	for range 3 {
		for _, s := range []string{"", "a", "ab", "abc", "b", "c"} {
			p.Match(s)
		}
		p.Of(noId)
		if s := strings.Join(p.Of(1), " "); s != "ab b" || digits(p.Match("ab")) != "1,2,3" || p.Len() != 4 || p.Nodes() != 4 {
			t.Fatal(s, p.Match("ab"), p.Len(), p.Nodes())
		}
	}
	if p.Drop(noId) != 0 || p.Add("b", 1) || p.Len() != 4 {
		t.Error(p.Len())
	}
}

// P15.1, P1: prefixes and keys of any bytes and of any length, and numbers that
// are below 0, or that have 64 bits.
func TestOddPrefixesAndClients(t *testing.T) {
	b := bothOf(t)
	r := rand.New(rand.NewSource(3))
	for _, i := range r.Perm(len(oddTexts)) {
		b.add(oddTexts[i], noId)
		for j := range 3 {
			b.add(oddTexts[i], oddIds[(i*5+j*8)%len(oddIds)])
		}
	}
	if l := b.x.Of(noId); !slices.Equal(l, oddTexts) {
		t.Error("not all, or not in order")
	}
	for _, i := range r.Perm(len(oddIds)) {
		b.add("\xff", oddIds[i])
		b.add("\xff", oddIds[i])
	}
	b.drop(noId)
	b.drop(noId)
	if l := b.x.Match("\xff\xfd"); !slices.Equal(l, b.p.match("\xff")) || len(l) < len(oddIds) || !slices.IsSorted(l) {
		t.Error("not all, or not rising:", l)
	}
	for _, i := range r.Perm(len(oddIds)) {
		b.match(oddTexts...)
		b.of(oddIds...)
		b.count()
		b.drop(oddIds[i])
	}
	b.match(oddTexts...)
	b.count()
	if b.x.Len() != 0 || b.x.Nodes() != 1 {
		t.Error(b.x.Len(), b.x.Nodes())
	}
}

// all are all texts of at most so many of these letters.
func all(letters string, n int) []string {
	l := []string{""}
	for i := 0; len(l[i]) < n; i++ {
		for j := range len(letters) {
			l = append(l, l[i]+letters[j:j+1])
		}
	}
	return l
}

// P15.1: each set of pairs of two clients and the shortest prefixes.
func TestAllSmallSets(t *testing.T) {
	prefixes, keys := all("ab", 2)[:6], all("ab", 3)
	for set := range 1 << (2 * len(prefixes)) {
		b := bothOf(t)
		for i := range 2 * len(prefixes) {
			if set>>i&1 == 1 {
				b.add(prefixes[i/2], 2-i%2)
			}
		}
		for _, id := range []int{1 + set%2, 2 - set%2} {
			b.match(keys...)
			b.of(0, 1, 2)
			b.count()
			b.drop(id)
		}
		b.match(keys...)
		b.of(1, 2)
		b.count()
	}
}

// P15.1: many calls by chance, held against plain pairs.
func TestManyCalls(t *testing.T) {
	for seed := range 60 {
		r := rand.New(rand.NewSource(int64(seed)))
		letters := []string{"a", "ab", "a\x00\xff", "abcdefgh"}[seed%4]
		text := func() string {
			l := make([]byte, r.Intn(2+seed%9))
			for i := range l {
				l[i] = letters[r.Intn(len(letters))]
			}
			return string(l)
		}
		id := func() int { return r.Intn(2+seed/3) - 1 }
		b := bothOf(t)
		for range 300 {
			if r.Intn(12) > 0 {
				b.add(text(), id())
			} else {
				b.drop(id())
			}
			b.match(text(), text()+text(), "")
			b.of(id())
			b.count()
		}
	}
}

// P2: the answers are those of the pairs that are there, in whichever order they
// came, and whichever went.
func TestOrderOfCallsDoesNotMatter(t *testing.T) {
	prefixes := all("ab", 4)
	for seed := range 20 {
		r := rand.New(rand.NewSource(int64(seed)))
		b := bothOf(t)
		for _, i := range r.Perm(len(prefixes)) {
			b.add(prefixes[i], i%5)
			b.add(prefixes[i], noId)
			b.add(prefixes[i]+"c", noId)
			b.add(prefixes[i], 5+i%3)
		}
		b.drop(noId)
		b.match(all("abc", 4)...)
		b.of(0, 1, 2, 3, 4, 5, 6, 7, 8, noId)
		b.count()
	}
}

// P1: prefixes each of which is the beginning of the next, clients that are told
// of the same one, and clients that leave one by one: no call takes long.
func TestMany(t *testing.T) {
	const many = 20000
	p, deep := New(), strings.Repeat("d", many/10)
	for i := range many {
		id := many - i
		if !p.Add("x"+strconv.Itoa(i), id) || !p.Add("", id) || p.Add(deep[:i/10], 0) != (i%10 == 0) {
			t.Fatal(i)
		}
	}
	if p.Len() != many+many/10 || len(p.Of(0)) != many/10 {
		t.Fatal(p.Len(), len(p.Of(0)))
	}
	if l := p.Match(deep); len(l) != many+1 || !slices.IsSorted(l) {
		t.Fatal(len(l))
	}
	for id := 1; id <= many; id++ {
		if n := p.Drop(id); n != 2 {
			t.Fatal(id, n)
		}
	}
	if p.Len() != many/10 || p.Drop(0) != many/10 || p.Len() != 0 || p.Nodes() != 1 {
		t.Error(p.Len(), p.Nodes())
	}
}

// P15.1: what has gone isn't kept: neither a client that has left, nor a prefix
// without clients.
func TestNothingIsKeptOfWhatHasGone(t *testing.T) {
	p := New()
	for i := range 500 {
		p.Add(strconv.Itoa(i), i%20)
		p.Add("all", i%20)
		p.Drop((i + 7) % 20)
	}
	for id := range 20 {
		p.Drop(id)
	}
	if len(p.of) != 0 || len(p.told.ids) != 0 || p.told.Len() != 0 {
		t.Error(len(p.of), len(p.told.ids), p.told.Len())
	}
}

// P2: two that were used alike answer alike, and neither knows of the other.
func TestEachIsItsOwn(t *testing.T) {
	a, b, other := New(), New(), New()
	for i := range 500 {
		prefix, id := strconv.Itoa(i*i%23), i%7
		if a.Add(prefix, id) != b.Add(prefix, id) {
			t.Fatal(i)
		}
		other.Add(prefix, noId)
		other.Drop(id)
		if i%5 == 0 && a.Drop(i%6) != b.Drop(i%6) {
			t.Fatal(i)
		}
		if !slices.Equal(a.Match(prefix), b.Match(prefix)) || slices.Contains(a.Match(prefix), noId) || !slices.Equal(a.Of(id), b.Of(id)) || a.Len() != b.Len() || a.Nodes() != b.Nodes() {
			t.Fatal(i)
		}
		if l := other.Match(prefix); digits(l) != digits([]int{noId}) {
			t.Fatal(l)
		}
	}
}

// spoil writes over a list, its spare room included.
func spoil[T any](l []T, by T) {
	for i := range l[:cap(l)] {
		l[:cap(l)][i] = by
	}
}

// P15.1: what is answered is the asker's, its spare room too: it changes no
// pair, and no later call changes it.
func TestAnswersAreNew(t *testing.T) {
	p := pairsOf(t, "a:1 a:2 a:3 a:4 a:5 b:3 c:3 d:3 ab:3")
	ids, ids2 := p.Match("a"), p.Match("a")
	of, of2 := p.Of(3), p.Of(3)
	spoil(ids, noId)
	spoil(of, "none of them")
	p.Add("a", 0)
	p.Add("bb", 3)
	p.Drop(2)
	if digits(ids2) != "1,2,3,4,5" || strings.Join(of2, " ") != "a ab b c d" {
		t.Error(ids2, of2)
	}
	if s := digits(p.Match("a")) + " " + strings.Join(p.Of(3), " "); s != "0,1,3,4,5 a ab b bb c d" {
		t.Error(s)
	}
	of = p.Of(3)
	p.Drop(3)
	p.Add("z", 3)
	if strings.Join(of, " ") != "a ab b bb c d" || strings.Join(p.Of(3), " ") != "z" {
		t.Error(of, p.Of(3))
	}
}

// P15.1: a prefix may be made of bytes that are written over behind the call.
func TestPrefixesAreTheirOwn(t *testing.T) {
	b := []byte("abcd")
	p := New()
	p.Add(string(b), 1)
	p.Add(string(b[:2]), 1)
	copy(b, "wxyz")
	if s := strings.Join(p.Of(1), " "); s != "ab abcd" || len(p.Match("wxyz")) != 0 || digits(p.Match("abcde")) != "1" {
		t.Error(s)
	}
}
