package table

import (
	"hash/fnv"
	"maps"
	"math"
	"math/rand"
	"slices"
	"strconv"
	"strings"
	"testing"
)

// The calls' signatures are part of what is promised.
var (
	_ func() *Table                      = New
	_ func(string) uint64                = Hash
	_ func(*Table, string, int64) bool   = (*Table).Put
	_ func(*Table, string) (int64, bool) = (*Table).Drop
	_ func(*Table, string) (int64, bool) = (*Table).Get
	_ func(*Table) int                   = (*Table).Len
	_ func(*Table) (int, int)            = (*Table).Room
	_ func(*Table) []string              = (*Table).Keys
	_ func(*Table)                       = (*Table).Step
	_ func(*Table)                       = (*Table).Clear
)

var times = strings.Repeat

// brief is the beginning of what is told of a fault.
func brief(s string) string { return s[:min(len(s), 80)] }

// roomIs holds the rooms that a table has.
func roomIs(t *testing.T, x *Table, now, next int) {
	t.Helper()
	if a, b := x.Room(); a != now || b != next {
		t.Fatalf("a room of %d and %d, not %d and %d", a, b, now, next)
	}
}

// there holds what a key has, and that it has something.
func there(t *testing.T, x *Table, key string, n int64) {
	t.Helper()
	if got, ok := x.Get(key); got != n || !ok {
		t.Fatalf("Get of %q: %d, %t, not %d", brief(key), got, ok, n)
	}
}

// gone holds that a key has nothing.
func gone(t *testing.T, x *Table, key string) {
	t.Helper()
	if n, ok := x.Get(key); n != 0 || ok {
		t.Fatalf("Get of %q: %d, %t", brief(key), n, ok)
	}
	if n, ok := x.Drop(key); n != 0 || ok {
		t.Fatalf("Drop of %q: %d, %t", brief(key), n, ok)
	}
}

// homed is a key of that name, whose hash leaves its first two digits, less
// than 32, modulo 32 (and so that modulo 8 and 16, too).
func homed(name string) string {
	home, _ := strconv.Atoi(name[:2])
	for i := 0; ; i++ {
		if k := name + "." + strconv.Itoa(i); Hash(k)%32 == uint64(home) {
			return k
		}
	}
}

// play does what a script says: words of a sign and a homed key's name, "+" Put,
// "-" Drop, "?" Get, and "." alone Step.
func play(x *Table, script string) {
	for _, w := range strings.Fields(script) {
		switch w[0] {
		case '+':
			x.Put(homed(w[1:]), 1)
		case '-':
			x.Drop(homed(w[1:]))
		case '?':
			x.Get(homed(w[1:]))
		case '.':
			x.Step()
		}
	}
}

// fresh is so many words that Put new keys, each of a home of its own from one on.
func fresh(home, n int, name string) string {
	var l []string
	for i := range n {
		l = append(l, "+"+strconv.Itoa(100 + home + i)[1:]+name)
	}
	return strings.Join(l, " ")
}

// P8.1: known ones, and another way.
func TestHash(t *testing.T) {
	for _, c := range []struct {
		key string
		h   uint64
	}{
		{"", 14695981039346656037}, {"a", 0xaf63dc4c8601ec8c}, {"b", 0xaf63df4c8601f1a5}, {"foobar", 0x85944171f73967e8}, {"\x00", 0xaf63bd4c8601b7df}, {"\xff", 0xaf64724c8602eb6e},
	} {
		if h := Hash(c.key); h != c.h {
			t.Errorf("%q: %x, not %x", c.key, h, c.h)
		}
	}
	r := rand.New(rand.NewSource(1))
	for i := range 2000 {
		b := make([]byte, i%300)
		r.Read(b)
		f := fnv.New64a()
		f.Write(b)
		if h := Hash(string(b)); h != f.Sum64() {
			t.Errorf("%q: %x, not %x", b, h, f.Sum64())
		}
	}
	// Bytes are asked, and not the letters that they are.
	if Hash("é") != Hash("\xc3\xa9") || Hash("é") == Hash("\xe9") {
		t.Errorf("%x", Hash("é"))
	}
}

// P8.1
func TestNewHasNoEntries(t *testing.T) {
	x := New()
	roomIs(t, x, 8, 0)
	for _, k := range []string{"", "a", "\x00", times("a", 1000)} {
		gone(t, x, k)
	}
	x.Step()
	if x.Len() != 0 || len(x.Keys()) != 0 {
		t.Error(x.Len(), x.Keys())
	}
	roomIs(t, x, 8, 0)
	if New() == New() {
		t.Error("one for two")
	}
}

// P8.1: a key that is there gets another number, and isn't new.
func TestPutOfAKeyThatIsThere(t *testing.T) {
	for _, k := range []string{"", "a", "ab", "\x00\xff", times("k", 100000)} {
		x := New()
		for i, n := range []int64{7, 0, math.MinInt64, math.MaxInt64, math.MaxInt64, -1} {
			if x.Put(k, n) != (i == 0) || x.Len() != 1 || !slices.Equal(x.Keys(), []string{k}) {
				t.Errorf("Put of %q, %d", brief(k), n)
			}
			there(t, x, k, n)
		}
		if n, ok := x.Drop(k); n != -1 || !ok || x.Len() != 0 || len(x.Keys()) != 0 {
			t.Errorf("Drop of %q: %d, %t", brief(k), n, ok)
		}
		gone(t, x, k)
		if !x.Put(k, 0) || x.Len() != 1 {
			t.Errorf("%q isn't new", brief(k))
		}
		there(t, x, k, 0)
		if n, ok := x.Drop(k); n != 0 || !ok {
			t.Errorf("Drop of %q: %d, %t", brief(k), n, ok)
		}
	}
}

// P8.1: keys are what they are by all their bytes.
func TestKeysThatAreNotThere(t *testing.T) {
	x := New()
	for i, k := range []string{"user:1", "user:2", "user:22"} {
		x.Put(k, int64(i))
	}
	for _, k := range []string{"", "u", "user:", "user:3", "user:11", "user:222", "user:1\x00", "User:1", " user:1"} {
		gone(t, x, k)
	}
	if x.Len() != 3 {
		t.Error(x.Len())
	}
}

// P8.1: in order by their bytes as numbers from 0 to 255, a beginning ahead.
func TestKeys(t *testing.T) {
	order := []string{"", "\x00", "10", "9", "a", "a\x00", "aB", "ab", "ab\x00", "abc", "a\x7f", "a\x80", "a\xff", "b", "z", "é", "\xff"}
	r := rand.New(rand.NewSource(2))
	for range 20 {
		x := New()
		for _, i := range r.Perm(len(order)) {
			x.Put(order[i], int64(i))
			// As it is moved, too, a key is told once.
			l := x.Keys()
			if len(l) != x.Len() || !slices.IsSorted(l) || len(slices.Compact(l)) != x.Len() {
				t.Fatal(l)
			}
		}
		if l := x.Keys(); !slices.Equal(l, order) {
			t.Fatalf("%q", l)
		}
		x.Drop("a")
		if l := x.Keys(); !slices.Equal(l, slices.Delete(slices.Clone(order), 4, 5)) {
			t.Fatalf("%q", l)
		}
	}
}

// P8.1: whatever was there, and wherever it was being moved.
func TestClear(t *testing.T) {
	for _, script := range []string{
		"", "+00a", "+00a -00a", "+00a +01a +02a +03a +04a", "+00a +01a +02a +03a +04a .", "+00a +01a +02a +03a +04a . .",
		"+00a -00a +01a -01a +02a -02a +03a -03a", "+00a -00a +01a -01a +02a -02a +03a -03a +00a",
	} {
		x := New()
		play(x, script)
		x.Clear()
		roomIs(t, x, 8, 0)
		if x.Len() != 0 || len(x.Keys()) != 0 {
			t.Errorf("%s: %d, %q", script, x.Len(), x.Keys())
		}
		for _, k := range []string{"00a", "01a", "04a"} {
			gone(t, x, homed(k))
		}
		// No grave is left: four more have room, a fifth hasn't.
		play(x, "+04a +05a +06a +07a")
		roomIs(t, x, 8, 0)
		play(x, "+00a")
		roomIs(t, x, 8, 32)
		play(x, ".")
		roomIs(t, x, 8, 32)
		play(x, ".")
		roomIs(t, x, 32, 0)
		if x.Len() != 5 {
			t.Errorf("%s: %d", script, x.Len())
		}
	}
}

// P8.2: how full it must be to be moved, and into how much room.
func TestMoveBegins(t *testing.T) {
	for _, c := range []struct {
		script    string
		now, next int
	}{
		// Entries alone.
		{"+00a +01a +02a", 8, 0}, {"+00a +01a +02a +03a", 8, 0}, {"+00a +01a +02a +03a +04a", 8, 32},
		// Graves count, too, but not for the room into which it is moved.
		{"+00a +01a +02a -00a +03a", 8, 0}, {"+00a +01a +02a -00a +03a +04a", 8, 16},
		{"+00a +01a +02a +03a -00a", 8, 0}, {"+00a +01a +02a +03a -00a +04a", 8, 16},
		{"+00a +01a +02a +03a -00a -01a +04a", 8, 16}, {"+00a +01a +02a +03a -00a -01a -02a +04a", 8, 8}, {"+00a +01a +02a +03a -00a -01a -02a -03a +04a", 8, 8},
		// Three of four are graves' and entries': not half.
		{"+00a +01a +02a -00a -01a -02a +04a", 8, 0}, {"+00a +01a +02a -00a -01a -02a +04a -04a", 8, 0}, {"+00a +01a +02a -00a -01a -02a +04a -04a +05a", 8, 8},
		// Begun ahead of the new key, though it would come into a grave.
		{"+00a +01a +02a +03a -00a +00a", 8, 16}, {"+00a +01a +02a +03a -00a +00b", 8, 16},
		// Not by a key that is there, nor by other calls.
		{"+00a +01a +02a +03a +00a +03a", 8, 0}, {"+00a +01a +02a +03a ?00a ?04a -04a . .", 8, 0}, {"+00a +01a +02a +03a -00a -01a -02a -03a ?00a .", 8, 0},
		// A key that is there, and was being moved, doesn't begin it anew.
		{"+00a +01a +02a +03a +04a +00a", 8, 32},
	} {
		x := New()
		play(x, c.script)
		if a, b := x.Room(); a != c.now || b != c.next {
			t.Errorf("%s: a room of %d and %d, not %d and %d", c.script, a, b, c.now, c.next)
		}
	}
}

// P8.2: the rooms of a table that only grows: each time it is half full of entries,
// of which the next one's quarter is more.
func TestRoomsThatGrow(t *testing.T) {
	x := New()
	room, next := 8, 0
	left := 0
	for i := range 20000 {
		switch {
		case next > 0:
			if left--; left == 0 {
				room, next = next, 0
			}
		case i == room/2:
			next, left = room*4, room/4
		}
		if !x.Put(strconv.Itoa(i), int64(i)) || x.Len() != i+1 {
			t.Fatal(i, x.Len())
		}
		roomIs(t, x, room, next)
	}
}

// P8.2: not below half of its own, however few entries there are.
func TestRoomsThatShrink(t *testing.T) {
	x := New()
	for i := range 2100 {
		x.Put(strconv.Itoa(i), 1)
	}
	for range 8192 {
		x.Step()
	}
	roomIs(t, x, 8192, 0)
	for i := range 2100 {
		x.Drop(strconv.Itoa(i))
	}
	roomIs(t, x, 8192, 0)
	seen := []int{8192}
	for i := range 20000 {
		k := "x" + strconv.Itoa(i)
		x.Put(k, 1)
		x.Drop(k)
		a, b := x.Room()
		if last := seen[len(seen)-1]; b > 0 && b != max(8, a/2) || a != last && a != max(8, last/2) {
			t.Fatal(i, a, b, last)
		} else if a != last {
			seen = append(seen, a)
		}
	}
	if !slices.Equal(seen, []int{8192, 4096, 2048, 1024, 512, 256, 128, 64, 32, 16, 8}) {
		t.Error(seen)
	}
}

// P8.2: each call that steps moves 4 places, be its key there or not, and the Put
// that begins moves none; other calls don't step.
func TestEachCallSteps(t *testing.T) {
	begin := "+00a +01a +02a +03a +04a"
	steps := []string{"+05a", "+00a", "+04a", "-00a", "-04a", "-06a", "?00a", "?04a", "?06a", "."}
	for _, a := range steps {
		for _, b := range steps {
			x := New()
			play(x, begin)
			roomIs(t, x, 8, 32)
			if x.Len() != 5 || len(x.Keys()) != 5 {
				t.Error(x.Len())
			}
			roomIs(t, x, 8, 32)
			play(x, a)
			x.Len()
			x.Keys()
			roomIs(t, x, 8, 32)
			play(x, b)
			roomIs(t, x, 32, 0)
			play(x, ". . ?00a")
			roomIs(t, x, 32, 0)
			l := x.Keys()
			if len(l) != x.Len() {
				t.Errorf("%s %s: %q", a, b, l)
			}
			for _, k := range l {
				there(t, x, k, 1)
			}
		}
	}
}

// P8.2: empty places, and graves, count at a step as others do.
func TestStepsOfEmptyPlaces(t *testing.T) {
	x := New()
	for i := range 5 {
		x.Put(strconv.Itoa(i), 1)
	}
	x.Step()
	x.Step()
	for i := range 5 {
		x.Drop(strconv.Itoa(i))
	}
	for i := 0; ; i++ {
		k := "x" + strconv.Itoa(i)
		x.Put(k, 1)
		if _, next := x.Room(); next > 0 {
			break
		}
		x.Drop(k)
	}
	roomIs(t, x, 32, 16)
	for range 7 {
		x.Step()
		roomIs(t, x, 32, 16)
	}
	x.Step()
	roomIs(t, x, 16, 0)
	if x.Len() != 1 {
		t.Error(x.Len())
	}
}

// P8.2: what was moved stands in the new one, and leaves a grave there when it is
// dropped; what wasn't yet leaves it in the old one, which goes.
func TestPlacesAreMovedInOrder(t *testing.T) {
	for _, c := range []struct {
		script string
		graves int
	}{
		// The Drop moves places 0 to 3 ahead of what it does.
		{"-00a .", 1}, {"-01a .", 1}, {"-03a .", 1}, {"-04a .", 0}, {"-07a .", 0}, {"-08a .", 1},
		// The second one moves all.
		{"-00a -04a", 2}, {"-04a -00a", 1}, {"-07a -01a", 1}, {". -07a", 1}, {". . -04a", 1}, {"-08a -04a", 2}, {"-04a -08a", 1},
		{"?00a -07a", 1}, {"+00a -07a", 1}, {"-05a -07a", 1},
	} {
		x := New()
		// In the old one stand keys at 0, 1, 3 and 7, or 4; the fifth is the new one's.
		play(x, "+00a +01a +03a")
		if strings.Contains(c.script, "4") {
			play(x, "+04a")
		} else {
			play(x, "+07a")
		}
		play(x, "+08a")
		roomIs(t, x, 8, 32)
		play(x, c.script)
		roomIs(t, x, 32, 0)
		// So many more, till half are used up, and one more that begins a move.
		more := 16 - x.Len() - c.graves
		play(x, fresh(10, more, "x"))
		if a, b := x.Room(); a != 32 || b != 0 {
			t.Errorf("%s: begun too early, a room of %d and %d", c.script, a, b)
		}
		play(x, "+31y")
		if a, b := x.Room(); a != 32 || b == 0 {
			t.Errorf("%s: not begun, a room of %d and %d", c.script, a, b)
		}
	}
}

// P8.2: new keys alone come into the new one: a key that stands in the old one has
// another number there, till its place is moved.
func TestPutOfAKeyThatIsNotMovedYet(t *testing.T) {
	x := New()
	play(x, "+00a +01a +02a -00a +03a +04a . . +05a +06a +15a +09a -09a +08a")
	roomIs(t, x, 16, 32)
	if x.Put(homed("15a"), 7) {
		t.Error("15a is new")
	}
	// So it isn't ahead of 15b, and comes into its grave.
	play(x, "+15b -15b .")
	roomIs(t, x, 32, 0)
	there(t, x, homed("15a"), 7)
	play(x, fresh(17, 16-x.Len(), "x"))
	roomIs(t, x, 32, 0)
	play(x, "+31y")
	roomIs(t, x, 32, 128)
}

// P8.2: a Put that moves the last places, ahead of what it does, may begin to move
// the table anew.
func TestPutThatEndsAMoveAndBeginsOne(t *testing.T) {
	x := New()
	play(x, "+00a +01a +02a -00a +03a +04a . .")
	roomIs(t, x, 16, 0)
	play(x, "-01a -02a -03a +08b -08b +09b -09b +10b -10b +11b -11b")
	if x.Len() != 1 {
		t.Fatal(x.Len())
	}
	play(x, "+12a")
	roomIs(t, x, 16, 8)
	play(x, "+00c +01c +02c")
	roomIs(t, x, 16, 8)
	play(x, "+03c")
	roomIs(t, x, 8, 32)
	play(x, "+04c")
	roomIs(t, x, 8, 32)
	play(x, "+05c")
	roomIs(t, x, 32, 0)
	if x.Len() != 8 {
		t.Error(x.Len())
	}
	for _, k := range []string{"04a", "12a", "00c", "01c", "02c", "03c", "04c", "05c"} {
		there(t, x, homed(k), 1)
	}
}

// P8.2: a Get that ends a move begins none, and a Put of a key that is there.
func TestCallsThatEndAMoveAndBeginNone(t *testing.T) {
	for _, last := range []string{"?00c", "+00c", "-00c", "-05c", "."} {
		x := New()
		play(x, "+00a +01a +02a -00a +03a +04a . . -01a -02a -03a +08b -08b +09b -09b +10b -10b +11b -11b +12a +00c +01c +02c")
		roomIs(t, x, 16, 8)
		play(x, last)
		roomIs(t, x, 8, 0)
		play(x, "+06c")
		if _, next := x.Room(); next < 16 {
			t.Error(last, next)
		}
	}
}

// P8.3: which place an entry comes into, as a table shows it by when it is moved.
func TestPlaces(t *testing.T) {
	for _, c := range []struct {
		why, script string
		now, next   int
	}{
		{"a key that was dropped comes into its own grave", "+03a -03a +03a -03a +03a -03a +03a -03a +03a", 8, 0},
		{"and another one into that", "+03a -03a +03b -03b +03c -03c +03d -03d +03e", 8, 0},
		{"but not one of the place ahead, or behind", "+03a -03a +02a -02a +04a -04a +05a -05a +06a", 8, 8},
		{"the second one stands behind the first one", "+03a +03b -03a -03b +03c +04c +05c", 8, 0},
		{"and its grave isn't another's", "+03a +03b -03a -03b +05c +06c +07c", 8, 16},
		{"the first place comes behind the last one", "+07a +07b -07a -07b +00c +05c +06c", 8, 0},
		{"and not another one", "+07a +07b -07a -07b +01c +05c +06c", 8, 16},
		{"the first grave, not the empty place behind it", "+03a +03b -03a +03c +05a +06a", 8, 0},
		{"so all four are entries", "+03a +03b -03a +03c +05a +06a +07a", 8, 32},
		{"a grave in the midst", "+03a +03b +03c -03b +03d +06a", 8, 0},
		{"of two graves the first", "+03a +03b +03c -03a -03b +03d +04a +06a", 8, 0},
		{"a key that is there stays, behind a grave", "+03a +03b -03a +03b +04a +06a +07a", 8, 16},
		{"if it didn't, its place would be free", "+03a +03b -03a +04a +06a", 8, 0},
		{"a key is found behind graves", "+03a +03b +03c -03a -03b +03c", 8, 0},
		{"no one is put twice", "+03a +03b -03a +03b -03b +00a +01a", 8, 0},
	} {
		x := New()
		play(x, c.script)
		if a, b := x.Room(); a != c.now || b != c.next {
			t.Errorf("%s: %s: a room of %d and %d, not %d and %d", c.why, c.script, a, b, c.now, c.next)
		}
	}
}

// room is places in another way: by maps.
type room struct {
	size   int
	keys   map[int]string
	graves map[int]bool
}

func newRoom(size int) *room { return &room{size, map[int]string{}, map[int]bool{}} }

// where is the place of a key, by looking at all; -1, if there is none.
func (r *room) where(key string) int {
	if r != nil {
		for i, k := range r.keys {
			if k == key {
				return i
			}
		}
	}
	return -1
}

// come is what P8.3 says of a new key.
func (r *room) come(key string) {
	for i := range r.size {
		at := int((Hash(key)%uint64(r.size) + uint64(i)) % uint64(r.size))
		if _, taken := r.keys[at]; !taken {
			r.keys[at] = key
			delete(r.graves, at)
			return
		}
	}
	panic("no place")
}

// model is what a table must be, by what P8.2 and P8.3 say.
type model struct {
	n         map[string]int64
	now, next *room // next is nil, if it isn't being moved
	moved     int
}

func newModel() *model { return &model{n: map[string]int64{}, now: newRoom(8)} }

func (m *model) step() {
	if m.next == nil {
		return
	}
	for at := m.moved; at < m.moved+4; at++ {
		if k, ok := m.now.keys[at]; ok {
			delete(m.now.keys, at)
			m.next.come(k)
		}
	}
	if m.moved += 4; m.moved >= m.now.size {
		m.now, m.next, m.moved = m.next, nil, 0
	}
}

func (m *model) put(key string, n int64) bool {
	m.step()
	_, known := m.n[key]
	if !known {
		if m.next == nil && 2*(len(m.now.keys)+len(m.now.graves)) >= m.now.size {
			size := 8
			for 2*size < m.now.size || size <= 4*len(m.n) {
				size *= 2
			}
			m.next = newRoom(size)
		}
		if m.next != nil {
			m.next.come(key)
		} else {
			m.now.come(key)
		}
	}
	m.n[key] = n
	return !known
}

func (m *model) drop(key string) (int64, bool) {
	m.step()
	n, known := m.n[key]
	for _, r := range []*room{m.now, m.next} {
		if at := r.where(key); at >= 0 {
			delete(r.keys, at)
			r.graves[at] = true
		}
	}
	delete(m.n, key)
	return n, known
}

// rooms are what Room must answer.
func (m *model) rooms() (int, int) {
	if m.next == nil {
		return m.now.size, 0
	}
	return m.now.size, m.next.size
}

// call does one call of a table and of its model, and holds the answers against each other.
func call(t *testing.T, x *Table, m *model, what int, key string, n int64) {
	t.Helper()
	switch {
	case what < 10:
		if got, added := x.Put(key, n), m.put(key, n); got != added {
			t.Fatalf("Put of %q: %t", key, got)
		}
	case what < 20:
		got, ok := x.Drop(key)
		if n, known := m.drop(key); got != n || ok != known {
			t.Fatalf("Drop of %q: %d, %t, not %d, %t", key, got, ok, n, known)
		}
	case what < 25:
		got, ok := x.Get(key)
		m.step()
		if n, known := m.n[key]; got != n || ok != known {
			t.Fatalf("Get of %q: %d, %t, not %d, %t", key, got, ok, n, known)
		}
	default:
		x.Step()
		m.step()
	}
	now, next := m.rooms()
	roomIs(t, x, now, next)
	if x.Len() != len(m.n) {
		t.Fatalf("%d keys, not %d", x.Len(), len(m.n))
	}
}

// P8.1, P8.2, P8.3: many calls, held against the model.
func TestManyCalls(t *testing.T) {
	r := rand.New(rand.NewSource(5))
	for i := range 1500 {
		x, m := New(), newModel()
		known := 3 + r.Intn([]int{6, 20, 60}[i%3])
		puts := 1 + r.Intn(9)
		for range 250 {
			what := r.Intn(27)
			if what < 20 { // more of Puts, or of Drops, in turns
				what = 19
				if r.Intn(10) < puts {
					what = 0
				}
			}
			if r.Intn(60) == 0 {
				puts = 1 + r.Intn(9)
			}
			call(t, x, m, what, strconv.Itoa(r.Intn(known)), r.Int63()-r.Int63())
		}
		keys := slices.Sorted(maps.Keys(m.n))
		if l := x.Keys(); !slices.Equal(l, keys) {
			t.Fatalf("%q, not %q", l, keys)
		}
		for k, n := range m.n {
			there(t, x, k, n)
		}
	}
}

// P8.2, P8.3: likewise, with keys of few homes: long ways to go from each.
func TestManyCallsOfKeysThatCollide(t *testing.T) {
	r := rand.New(rand.NewSource(7))
	var keys []string
	for _, home := range []string{"07", "31", "15", "14"} {
		for i := range 5 {
			keys = append(keys, homed(home+strconv.Itoa(i)))
		}
	}
	for range 1500 {
		x, m := New(), newModel()
		few := keys[r.Intn(len(keys)-5):]
		for range 200 {
			call(t, x, m, r.Intn(27), few[r.Intn(len(few))], 1)
		}
		if l := x.Keys(); !slices.Equal(l, slices.Sorted(maps.Keys(m.n))) {
			t.Fatalf("%q", l)
		}
	}
}

// P8.2, P8.3: each of the shortest runs of calls of few keys.
func TestAllShortRuns(t *testing.T) {
	keys := []string{homed("00a"), homed("08a"), homed("07a")}
	ahead := "+01a +02a +03a -01a -02a"
	for run := range 7 * 7 * 7 * 7 * 7 {
		x, m := New(), newModel()
		play(x, ahead)
		for _, w := range strings.Fields(ahead) {
			if w[0] == '+' {
				m.put(homed(w[1:]), 1)
			} else {
				m.drop(homed(w[1:]))
			}
		}
		for i := 1; i <= 7*7*7*7; i *= 7 {
			if c := run / i % 7; c < 6 {
				call(t, x, m, c/3*10, keys[c%3], int64(i))
			} else {
				call(t, x, m, 26, "", 0)
			}
		}
		for _, k := range keys {
			call(t, x, m, 20, k, 0)
		}
	}
}

// P8.1: all that was Put is there, and nothing else, at each step of its being moved.
func TestAllAreThereAsTheyAreMoved(t *testing.T) {
	for i := range 40 {
		for steps := range 10 {
			for j := range i + 2 {
				// Made anew for each key: it is moved by being asked.
				x := New()
				for k := range i + 1 {
					x.Put(strconv.Itoa(k), int64(k))
				}
				for range steps {
					x.Step()
				}
				if j <= i {
					there(t, x, strconv.Itoa(j), int64(j))
				} else {
					gone(t, x, strconv.Itoa(j))
				}
			}
		}
	}
}

// P1: many more come and go than are there: there is an end to its room, and to each search.
func TestManyComeAndGo(t *testing.T) {
	x := New()
	for i := range 200000 {
		x.Put(strconv.Itoa(i), int64(i))
		if i >= 10 {
			if n, ok := x.Drop(strconv.Itoa(i - 10)); n != int64(i-10) || !ok {
				t.Fatal(i, n, ok)
			}
		}
		if a, b := x.Room(); a > 128 || b > 128 {
			t.Fatal(i, a, b)
		}
	}
	if x.Len() != 10 || len(x.Keys()) != 10 {
		t.Error(x.Len())
	}
}

// P1: a great key, and many small ones.
func TestGreatTables(t *testing.T) {
	great := times("\x00k", 5000000)
	x := New()
	x.Put(great, 1)
	x.Put(great+"a", 2)
	for i := range 300000 {
		if !x.Put(strconv.Itoa(i), int64(i)) {
			t.Fatal(i)
		}
	}
	there(t, x, great, 1)
	there(t, x, great+"a", 2)
	gone(t, x, great+"b")
	if l := x.Keys(); x.Len() != 300002 || len(l) != 300002 || !slices.IsSorted(l) {
		t.Fatal(x.Len(), len(l))
	}
	for i := range 300000 {
		if n, ok := x.Drop(strconv.Itoa(i)); n != int64(i) || !ok {
			t.Fatal(i, n, ok)
		}
	}
	if l := x.Keys(); len(l) != 2 || l[0] != great || l[1] != great+"a" {
		t.Error(len(l))
	}
}

// P2: Tables are apart from one another, and the same calls answer the same.
func TestTablesAreApart(t *testing.T) {
	x, y := New(), New()
	play(x, "+00a +01a +02a +03a +04a")
	play(y, "+00a -00a +05a")
	if x.Len() != 5 || y.Len() != 1 {
		t.Error(x.Len(), y.Len())
	}
	roomIs(t, y, 8, 0)
	y.Clear()
	roomIs(t, x, 8, 32)
	play(y, "+00a +01a +02a +03a +04a")
	roomIs(t, y, 8, 32)
	if !slices.Equal(x.Keys(), y.Keys()) {
		t.Errorf("%q, not %q", y.Keys(), x.Keys())
	}
}

// An answer is new memory, spare room too, and isn't the table's.
func TestAnswersAreNew(t *testing.T) {
	x := New()
	play(x, "+00a +01a +02a +03a +04a +05a")
	keys := x.Keys()
	seen := map[*string]bool{}
	for range 3 {
		l := x.Keys()
		if !slices.Equal(l, keys) {
			t.Errorf("%q, not %q", l, keys)
		}
		l = l[:cap(l)]
		for i := range l {
			if seen[&l[i]] {
				t.Error("shared")
			}
			seen[&l[i]] = true
			l[i] = "x"
		}
	}
	for _, k := range keys {
		there(t, x, k, 1)
	}
}

// A key may be made of bytes that are written over behind the call.
func TestKeysAreTheirOwn(t *testing.T) {
	b := []byte("abcd")
	x := New()
	x.Put(string(b), 1)
	copy(b, "wxyz")
	there(t, x, "abcd", 1)
	gone(t, x, "wxyz")
}
