package keys

import (
	"math"
	"math/rand"
	"slices"
	"strconv"
	"strings"
	"testing"
)

// The calls' signatures are part of what is promised.
var (
	_ func(int) *Keys                                = New
	_ func(*Keys, string, int) (string, []int, bool) = (*Keys).Add
	_ func(*Keys, string) []int                      = (*Keys).Take
	_ func(*Keys, int) int                           = (*Keys).Drop
	_ func(*Keys, string) []int                      = (*Keys).Ids
	_ func(*Keys) []string                           = (*Keys).All
	_ func(*Keys) int                                = (*Keys).Len
	_ func(*Keys)                                    = (*Keys).Clear
)

// What no test adds.
const (
	noKey = "none of them"
	noId  = 987654321
)

// oddKeys are keys that are easily taken for another one, or for none.
var oddKeys = []string{"", "a", "A", "ab", "a ", " ", "\x00", "\x00\x00", "é", "\xc3", "\xa9", "\xff\xfe", noKey + ".", strings.Repeat("k", 100000), strings.Repeat("k", 99999)}

// oddIds are numbers that are easily taken for another one, or for none, rising.
var oddIds = []int{math.MinInt, math.MinInt + 1, math.MinInt32 - 1, math.MinInt32, -256, -10, -9, -1, 0, 1, 2, 9, 10, 255, 256, math.MaxInt32, math.MaxInt32 + 1, math.MaxUint32, math.MaxUint32 + 1, math.MaxInt - 1, math.MaxInt}

// brief is the beginning of a text, to be told of at a fault.
func brief(s string) string {
	s = strconv.Quote(s)
	return s[:min(len(s), 80)]
}

// plain is Keys another way: a list of rows, gone through each time.
type plain struct {
	most int
	rows []row
}

// row is a key and its clients, in the order in which they came.
type row struct {
	key string
	ids []int
}

func (r row) rising() []int { return slices.Sorted(slices.Values(r.ids)) }

func (p *plain) at(key string) int {
	return slices.IndexFunc(p.rows, func(r row) bool { return r.key == key })
}

func (p *plain) ids(key string) []int {
	if i := p.at(key); i >= 0 {
		return p.rows[i].rising()
	}
	return nil
}

func (p *plain) take(key string) []int {
	ids := p.ids(key)
	p.rows = slices.DeleteFunc(p.rows, func(r row) bool { return r.key == key })
	return ids
}

func (p *plain) add(key string, id int) (first string, ids []int, full bool) {
	if p.at(key) < 0 {
		if len(p.rows) == p.most {
			first, full = p.rows[0].key, true
			ids = p.take(first)
		}
		p.rows = append(p.rows, row{key: key})
	}
	r := &p.rows[p.at(key)]
	if !slices.Contains(r.ids, id) {
		r.ids = append(r.ids, id)
	}
	return first, ids, full
}

func (p *plain) drop(id int) int {
	before := len(p.rows)
	for i := range p.rows {
		p.rows[i].ids = slices.DeleteFunc(p.rows[i].ids, func(n int) bool { return n == id })
	}
	p.rows = slices.DeleteFunc(p.rows, func(r row) bool { return len(r.ids) == 0 })
	return before - len(p.rows)
}

// hold asks all that can be asked, and holds it against those rows.
func (p *plain) hold(t *testing.T, k *Keys) {
	t.Helper()
	var want []string
	for _, r := range p.rows {
		want = append(want, r.key)
		if l := k.Ids(r.key); !slices.Equal(l, r.rising()) {
			t.Fatalf("Ids of %s: %v, not %v", brief(r.key), l, r.rising())
		}
	}
	if l := k.All(); !slices.Equal(l, want) {
		t.Fatalf("All: %s, not %s", brief(strings.Join(l, " ")), brief(strings.Join(want, " ")))
	}
	if k.Len() != len(want) {
		t.Fatalf("Len: %d, not %d", k.Len(), len(want))
	}
	if l := k.Ids(noKey); len(l) != 0 {
		t.Fatal("Ids of a key that was never there:", l)
	}
}

// both have a call done by Keys and by plain, hold the answers against each
// other, and then all that can be asked.
type both struct {
	t *testing.T
	k *Keys
	p *plain
}

// bothOf are without rows, with that bound.
func bothOf(t *testing.T, most int) both {
	b := both{t, New(most), &plain{most: max(most, 1)}}
	b.hold()
	return b
}

func (b both) hold() { b.t.Helper(); b.p.hold(b.t, b.k) }

func (b both) add(key string, id int) {
	b.t.Helper()
	first, ids, full := b.k.Add(key, id)
	wantFirst, wantIds, wantFull := b.p.add(key, id)
	if first != wantFirst || !slices.Equal(ids, wantIds) || full != wantFull {
		b.t.Fatalf("Add of %s, %d: %s, %v, %t, not %s, %v, %t", brief(key), id, brief(first), ids, full, brief(wantFirst), wantIds, wantFull)
	}
	b.hold()
}

func (b both) take(key string) {
	b.t.Helper()
	if ids, want := b.k.Take(key), b.p.take(key); !slices.Equal(ids, want) {
		b.t.Fatalf("Take of %s: %v, not %v", brief(key), ids, want)
	}
	b.hold()
}

func (b both) drop(id int) {
	b.t.Helper()
	if n, want := b.k.Drop(id), b.p.drop(id); n != want {
		b.t.Fatalf("Drop of %d: %d, not %d", id, n, want)
	}
	b.hold()
}

func (b both) clear() {
	b.t.Helper()
	b.k.Clear()
	b.p.rows = nil
	b.hold()
}

// rowsOf adds words, each a key and behind its last colon a client's number.
func rowsOf(t *testing.T, most int, words string) *Keys {
	t.Helper()
	k := New(most)
	for _, w := range strings.Fields(words) {
		key, id := cut(t, w)
		k.Add(key, id)
	}
	return k
}

func cut(t *testing.T, word string) (string, int) {
	t.Helper()
	key, digits, _ := strings.Cut(word, ":")
	id, err := strconv.Atoi(digits)
	if err != nil {
		t.Fatal(err)
	}
	return key, id
}

// told is all rows as words, each a key and its clients.
func told(k *Keys) string {
	var words []string
	for _, key := range k.All() {
		words = append(words, key+":"+digits(k.Ids(key)))
	}
	return strings.Join(words, " ")
}

func digits(ids []int) string {
	var l []string
	for _, id := range ids {
		l = append(l, strconv.Itoa(id))
	}
	return strings.Join(l, ",")
}

// P14.1
func TestNewHasNoRows(t *testing.T) {
	for _, most := range []int{1, 2, 1000, 0, -1, math.MaxInt, math.MinInt} {
		b := bothOf(t, most)
		for _, key := range oddKeys {
			b.take(key)
		}
		for _, id := range oddIds {
			b.drop(id)
		}
	}
	if New(1) == New(1) {
		t.Error("one for two")
	}
}

// P14.1: the document's example.
func TestExample(t *testing.T) {
	k := New(2)
	k.Add("a", 7)
	k.Add("b", 8)
	if key, ids, full := k.Add("c", 9); key != "a" || digits(ids) != "7" || !full {
		t.Error(key, ids, full)
	}
	if s := told(k); s != "b:8 c:9" {
		t.Error(s)
	}
}

// P14.1: a key that has no row gets one, behind the others; one that has stays
// where it is; a client is in it once.
func TestAdd(t *testing.T) {
	for _, c := range []struct{ add, want string }{
		{"", ""},
		{"a:1", "a:1"},
		{"a:1 a:1", "a:1"},
		{"a:1 a:2", "a:1,2"},
		{"a:2 a:1", "a:1,2"},
		{"a:3 a:1 a:2", "a:1,2,3"},
		{"a:1 a:3 a:2", "a:1,2,3"},
		{"a:10 a:9 a:100", "a:9,10,100"},
		{"a:1 a:0 a:-1 a:-2", "a:-2,-1,0,1"},
		{"a:1 a:2 a:1 a:2 a:1", "a:1,2"},
		{"a:1 b:1", "a:1 b:1"},
		{"b:1 a:1", "b:1 a:1"},
		{"a:1 b:1 a:1", "a:1 b:1"},
		{"a:1 b:1 a:2", "a:1,2 b:1"},
		{"a:2 b:1 a:1", "a:1,2 b:1"},
		{"a:1 b:1 c:1 b:0 a:0", "a:0,1 b:0,1 c:1"},
		{"c:1 b:2 a:3 A:4 ab:5 c:6 c:5", "c:1,5,6 b:2 a:3 A:4 ab:5"},
		{":1 a:1 :0", ":0,1 a:1"},
	} {
		if s := told(rowsOf(t, 10, c.add)); s != c.want {
			t.Errorf("%s: %q, not %q", c.add, s, c.want)
		}
	}
}

// P14.1: if there are as many rows as the bound, the first one goes for a key
// that has none: of no other key, and only then.
func TestBound(t *testing.T) {
	for _, c := range []struct {
		most             int
		add, last, first string
		full             bool
		want             string
	}{
		{1, "", "a:1", ":", false, "a:1"},
		{1, "a:1", "a:1", ":", false, "a:1"},
		{1, "a:1", "a:2", ":", false, "a:1,2"},
		{1, "a:1", "b:1", "a:1", true, "b:1"},
		{1, "a:1", "b:2", "a:1", true, "b:2"},
		{1, "a:3 a:1 a:2", "b:4", "a:1,2,3", true, "b:4"},
		{0, "a:1", "b:2", "a:1", true, "b:2"},
		{-1, "a:1", "b:2", "a:1", true, "b:2"},
		{math.MinInt, "a:1", "b:2", "a:1", true, "b:2"},
		{2, "a:1", "b:2", ":", false, "a:1 b:2"},
		{2, "a:1 b:2", "b:1", ":", false, "a:1 b:1,2"},
		{2, "a:1 b:2", "a:2", ":", false, "a:1,2 b:2"},
		{2, "a:1 b:2", "c:3", "a:1", true, "b:2 c:3"},
		{2, "b:2 a:1", "c:3", "b:2", true, "a:1 c:3"},
		{2, "a:1 b:2 a:0", "c:3", "a:0,1", true, "b:2 c:3"},
		{2, "a:1 b:2 c:3", "a:9", "b:2", true, "c:3 a:9"},
		{2, "a:1 b:2 c:3 a:9", "d:4", "c:3", true, "a:9 d:4"},
		{2, ":1 b:2", "c:3", ":1", true, "b:2 c:3"},
		{2, "a:1 b:2", ":3", "a:1", true, "b:2 :3"},
		{3, "a:1 b:2", "c:3", ":", false, "a:1 b:2 c:3"},
		{3, "a:1 b:2 c:3", "d:1", "a:1", true, "b:2 c:3 d:1"},
		{math.MaxInt, "a:1 b:2 c:3", "d:4", ":", false, "a:1 b:2 c:3 d:4"},
	} {
		k := rowsOf(t, c.most, c.add)
		key, id := cut(t, c.last)
		first, ids, full := k.Add(key, id)
		if s := first + ":" + digits(ids); s != c.first || full != c.full {
			t.Errorf("%d, %s, %s: %q, %t, not %q, %t", c.most, c.add, c.last, s, full, c.first, c.full)
		}
		if s := told(k); s != c.want {
			t.Errorf("%d, %s, %s: %q, not %q", c.most, c.add, c.last, s, c.want)
		}
	}
}

// P14.1: rows that have gone make room.
func TestRoom(t *testing.T) {
	b := bothOf(t, 3)
	for range 3 {
		for _, w := range []string{"a:1", "b:1", "b:2", "c:2"} {
			b.add(cut(t, w))
		}
		b.take("b")
		b.add("d", 1) // one had gone, so none goes
		b.add("e", 1) // there are three again
		b.drop(2)
		b.add("f", 2)
		b.add("g", 2)
		b.clear()
	}
}

// P14.1: a key's row goes, with all its clients, and no other one.
func TestTake(t *testing.T) {
	for _, c := range []struct{ add, take, ids, want string }{
		{"", "a", "", ""},
		{"a:1", "a", "1", ""},
		{"a:1", "b", "", "a:1"},
		{"a:1", "A", "", "a:1"},
		{"a:1", "", "", "a:1"},
		{":1", "", "1", ""},
		{"a:3 a:-1 a:2", "a", "-1,2,3", ""},
		{"a:1 b:1 c:1", "a", "1", "b:1 c:1"},
		{"a:1 b:2 c:1", "b", "2", "a:1 c:1"},
		{"a:1 b:1 c:2 c:1", "c", "1,2", "a:1 b:1"},
		{"a:1 ab:2", "ab", "2", "a:1"},
		{"ab:1 a:2", "a", "2", "ab:1"},
	} {
		k := rowsOf(t, 10, c.add)
		if s := digits(k.Take(c.take)); s != c.ids {
			t.Errorf("%s, %q: %q, not %q", c.add, c.take, s, c.ids)
		}
		if s := told(k); s != c.want || k.Len() != len(k.All()) {
			t.Errorf("%s, %q: %q, not %q", c.add, c.take, s, c.want)
		}
		if len(k.Take(c.take)) != 0 || len(k.Ids(c.take)) != 0 || told(k) != c.want {
			t.Errorf("%s, %q: it is there still", c.add, c.take)
		}
		k.Add(c.take, 5)
		if s := strings.TrimLeft(c.want+" "+c.take+":5", " "); told(k) != s {
			t.Errorf("%s, %q, and it comes again: %q, not %q", c.add, c.take, told(k), s)
		}
	}
}

// P14.1: a client leaves all rows; what is answered is how many rows had none
// then, not how many it has left.
func TestDrop(t *testing.T) {
	for _, c := range []struct {
		add  string
		drop int
		gone int
		want string
	}{
		{"", 1, 0, ""},
		{"a:1", 1, 1, ""},
		{"a:1", 2, 0, "a:1"},
		{"a:1", 0, 0, "a:1"},
		{"a:1", -1, 0, "a:1"},
		{"a:-1", -1, 1, ""},
		{"a:0 b:1", 0, 1, "b:1"},
		{"a:1 a:2", 1, 0, "a:2"},
		{"a:1 a:2", 2, 0, "a:1"},
		{"a:1 a:2 a:3", 2, 0, "a:1,3"},
		{"a:1 b:1 c:1", 1, 3, ""},
		{"a:1 b:2 c:1", 1, 2, "b:2"},
		{"a:2 b:1 c:3", 1, 1, "a:2 c:3"},
		{"a:1 a:2 b:1 b:2 c:2 c:3", 2, 0, "a:1 b:1 c:3"},
		{"a:1 a:2 b:2 c:2 c:3 d:2", 2, 2, "a:1 c:3"},
		{"c:1 b:1 a:2 b:3", 1, 1, "b:3 a:2"},
		{"a:1 b:11 c:10", 1, 1, "b:11 c:10"},
	} {
		k := rowsOf(t, 10, c.add)
		if n := k.Drop(c.drop); n != c.gone || told(k) != c.want || k.Len() != len(k.All()) {
			t.Errorf("%s, %d: %d, %q, not %d, %q", c.add, c.drop, n, told(k), c.gone, c.want)
		}
		if n := k.Drop(c.drop); n != 0 || told(k) != c.want {
			t.Errorf("%s, %d, again: %d, %q", c.add, c.drop, n, told(k))
		}
		k.Add("a", c.drop)
		if !slices.Contains(k.Ids("a"), c.drop) {
			t.Errorf("%s, %d: it can't come again", c.add, c.drop)
		}
	}
}

// P14.1: a key whose row has gone comes behind the others.
func TestComesAgain(t *testing.T) {
	b := bothOf(t, 3)
	for _, w := range []string{"a:1", "b:2", "c:3"} {
		b.add(cut(t, w))
	}
	b.take("a")
	b.add("a", 4)
	b.drop(2)
	b.add("b", 1)
	b.add("d", 1)
	b.add("c", 1)
	if s := told(b.k); s != "b:1 d:1 c:1" {
		t.Error(s)
	}
}

// P14.1: to be asked for changes nothing.
func TestAskingChangesNothing(t *testing.T) {
	k := rowsOf(t, 3, "a:1 b:2 c:3")
	for _, key := range []string{"c", "a", "b", "d", ""} {
		k.Ids(key)
		k.All()
		k.Len()
		if s := told(k); s != "a:1 b:2 c:3" {
			t.Fatal(s)
		}
	}
	if key, _, full := k.Add("d", 4); key != "a" || !full {
		t.Error(key, full)
	}
}

// P14.1: all go; the bound stays.
func TestClear(t *testing.T) {
	b := bothOf(t, 2)
	b.clear()
	for range 3 {
		for _, w := range []string{"b:1", "a:1", "a:2", "c:3"} {
			b.add(cut(t, w))
		}
		b.clear()
		b.drop(1)
		b.take("a")
	}
}

// P14.1, P1: keys of any bytes and of any length, an empty one, too; and
// numbers that are below 0, or that have 64 bits.
func TestOddKeysAndClients(t *testing.T) {
	b := bothOf(t, len(oddKeys)-2)
	for i, key := range oddKeys {
		for j := range 3 {
			b.add(key, oddIds[(i*5+j*8)%len(oddIds)])
		}
	}
	for i, key := range oddKeys {
		b.add(key, oddIds[i])
		if i%2 == 0 {
			b.take(key)
		}
	}
	for _, id := range oddIds {
		b.drop(id)
	}
	if b.k.Len() != 0 {
		t.Error(b.k.Len())
	}
	for _, i := range rand.New(rand.NewSource(1)).Perm(len(oddIds)) {
		b.add("k", oddIds[i])
	}
	if !slices.Equal(b.k.Take("k"), oddIds) {
		t.Error("not all, or not rising")
	}
}

// P14.1, P1: many rows, many clients, and no call that takes long.
func TestMany(t *testing.T) {
	const many = 30000
	k := New(many)
	for i := range many {
		k.Add(strconv.Itoa(i), i%3)
		k.Add("0", i)
	}
	for i := range many / 2 {
		key, ids, full := k.Add(strconv.Itoa(many+i), 3)
		if key != strconv.Itoa(i) || !full || i > 0 && digits(ids) != strconv.Itoa(i%3) {
			t.Fatal(key, ids, full)
		}
		if i == 0 && (len(ids) != many || !slices.IsSorted(ids)) {
			t.Fatal(len(ids))
		}
	}
	for id, gone := range []int{many / 6, many / 6, many / 6, many / 2} {
		if n := k.Drop(id); n != gone {
			t.Fatal(id, n, "not", gone)
		}
	}
	if k.Len() != 0 || len(k.All()) != 0 {
		t.Error(k.Len())
	}
}

// P14.1: many calls by chance, held against plain rows.
func TestManyCalls(t *testing.T) {
	for seed := range 80 {
		rnd := rand.New(rand.NewSource(int64(seed)))
		b := bothOf(t, rnd.Intn(8)-1)
		for range 300 {
			key, id := strings.Repeat("k", rnd.Intn(1+seed/5)), rnd.Intn(2+seed/10)-1
			switch n := rnd.Intn(60); {
			case n < 40:
				b.add(key, id)
			case n < 52:
				b.take(key)
			case n < 59:
				b.drop(id)
			default:
				b.clear()
			}
		}
	}
}

// P2: two that were used alike answer alike, and neither knows of the other.
func TestEachIsItsOwn(t *testing.T) {
	a, b, other := New(9), New(9), New(1)
	for i := range 500 {
		key, id := strconv.Itoa(i*i%23), i%7
		keyA, idsA, fullA := a.Add(key, id)
		keyB, idsB, fullB := b.Add(key, id)
		if keyA != keyB || !slices.Equal(idsA, idsB) || fullA != fullB {
			t.Fatal(key, id)
		}
		other.Add(key, noId)
		other.Drop(id)
		other.Take(strconv.Itoa(i))
		other.Drop(noId)
		if i%5 == 0 && (a.Drop(i%7) != b.Drop(i%7) || !slices.Equal(a.Take(key), b.Take(key))) {
			t.Fatal(key, id)
		}
		if told(a) != told(b) || other.Len() != 0 {
			t.Fatal(told(a), told(b), told(other))
		}
	}
	a.Clear()
	if b.Len() == 0 || a.Len() != 0 {
		t.Error(a.Len(), b.Len())
	}
}

// spoil writes over a list, its spare room included.
func spoil[T any](l []T, by T) {
	for i := range l[:cap(l)] {
		l[:cap(l)][i] = by
	}
}

// P14.1: what is answered is the asker's, its spare room too: it changes no
// row, and no later call changes it.
func TestAnswersAreNew(t *testing.T) {
	k := rowsOf(t, 3, "a:1 a:2 a:3 a:4 a:5 b:1 b:2 b:3 c:1 c:3")
	first, second := k.Ids("a"), k.Ids("a")
	all, again := k.All(), k.All()
	spoil(first, noId)
	spoil(all, noKey)
	k.Add("a", 0)
	k.Drop(3)
	if digits(second) != "1,2,3,4,5" || strings.Join(again, " ") != "a b c" {
		t.Error(second, again)
	}
	if s := told(k); s != "a:0,1,2,4,5 b:1,2 c:1" {
		t.Error(s)
	}
	_, gone, _ := k.Add("d", 1)
	taken := k.Take("b")
	k.Add("a", 7)
	k.Add("b", 8)
	if digits(gone) != "0,1,2,4,5" || digits(taken) != "1,2" {
		t.Error(gone, taken)
	}
	spoil(gone, noId)
	spoil(taken, noId)
	if s := told(k); s != "d:1 a:7 b:8" {
		t.Error(s)
	}
}

// P14.1: lists of numbers and of texts take one more alike.
func TestWith(t *testing.T) {
	for _, c := range []struct{ one, want string }{
		{"a", "a b d"}, {"b", "b d"}, {"c", "b c d"}, {"d", "b d"}, {"e", "b d e"},
	} {
		if l := with([]string{"b", "d"}, c.one); strings.Join(l, " ") != c.want {
			t.Error(c.one, l)
		}
	}
	if l := with(nil, 5); digits(l) != "5" {
		t.Error(l)
	}
}
