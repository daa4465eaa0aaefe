package track

import (
	"math"
	"math/rand"
	"slices"
	"strconv"
	"strings"
	"testing"

	"nearhand/api"
)

// event is one of that kind.
func event(kind int, key string) api.Event { return api.Event{Kind: kind, Key: key} }

// otherEvents are all kinds but EventFlush, and some that there aren't.
var otherEvents = []int{api.EventSet, api.EventGone, api.EventExpired, api.EventEvicted, 0, -1, 6, math.MaxInt, math.MinInt}

// The document's example.
func TestExample(t *testing.T) {
	x := trackOf(t, 10, "on", "off")
	if l := x.Read(1, "k"); len(l) != 0 {
		t.Error(said(l))
	}
	if l := x.Change(2, event(api.EventSet, "k")); !slices.Equal(l, []api.Notice{{Kind: api.NoticeKey, To: 1, For: 1, Key: "k"}}) {
		t.Error(said(l))
	}
}

// P16.3: of whom rows are kept.
func TestReadTracks(t *testing.T) {
	for _, c := range []struct {
		words string
		saids int // as bits: whether nothing, yes, no are read of
	}{
		{"off", 0}, {"on", 7}, {"on noloop", 7}, {"on redirect 2", 7}, {"on bcast", 0}, {"on bcast prefix k", 0}, {"on optin", 2}, {"on optout", 3},
	} {
		for i := range 3 {
			x := trackOf(t, 10, c.words, "on")
			if i > 0 {
				x.Caching(1, i == 1)
			}
			l := x.Read(1, "k", "l")
			tracks := c.saids>>i&1 == 1
			if tracks != (rows(x) == "k:1 l:1") || tracks != (x.Len() > 0) || len(l) != 0 {
				t.Error(c.words, i, rows(x), said(l))
			}
		}
	}
}

// P16.3: of no client nothing is read.
func TestReadOfNone(t *testing.T) {
	x := trackOf(t, 1, "on")
	x.Read(1, "k")
	for _, id := range []int{0, -1, 2, math.MaxInt, math.MinInt} {
		if l := x.Read(id, "a", "b"); len(l) != 0 || rows(x) != "k:1" {
			t.Error(id, said(l), rows(x))
		}
	}
}

// P16.3: key by key; if a row goes, each of its clients is told, itself too,
// whatever its NoLoop, and to where its notices go.
func TestReadTells(t *testing.T) {
	for i, c := range []struct {
		most       int
		before     string // each a client's number, and keys
		id         int
		keys       string
		told, rows string
	}{
		{2, "", 1, "", "", ""},
		{2, "", 1, "a", "", "a:1"},
		{2, "", 1, "a b", "", "a:1 b:1"},
		{2, "", 1, "a a a", "", "a:1"},
		{2, "", 1, "a b c", "k1>1a", "b:1 c:1"},
		{2, "", 1, "a b c a", "k1>1a k1>1b", "c:1 a:1"},
		{2, "", 2, "a b c", "k2>2a", "b:2 c:2"}, // NoLoop
		{2, "", 3, "a b c", "k3>1a", "b:3 c:3"}, // redirected
		{2, "1ab", 2, "b a", "", "a:1,2 b:1,2"},
		{2, "1ab", 2, "b c", "k1>1a", "b:1,2 c:2"},
		{2, "1ab", 2, "c b", "k1>1a", "b:1,2 c:2"},
		{2, "1ab", 2, "c a", "k1>1a k1>1b", "c:2 a:2"},
		{2, "3a 2a 1a 3b", 2, "c d", "k1>1a k2>2a k3>1a k3>1b", "c:2 d:2"},
		{2, "3ba 2a 1a", 2, "c d", "k3>1b k1>1a k2>2a k3>1a", "c:2 d:2"},
		{1, "3a 2a 1a", 4, "b c b", "k1>1a k2>2a k3>1a k4>4b k4>4c", "b:4"},
		{1, "1a", 5, "b c", "", "a:1"}, // told of beginnings: its own keys aren't kept
		{1, "5a", 1, "a", "", "a:1"},
		{3, "1abc 2a 4c", 4, "d e a", "k1>1a k2>2a k1>1b k1>1c k4>4c", "d:4 e:4 a:4"},
	} {
		x := trackOf(t, c.most, "on", "on noloop", "on redirect 1", "on", "on bcast", "off")
		for _, w := range strings.Fields(c.before) {
			x.Read(int(w[0]-'0'), strings.Split(w[1:], "")...)
		}
		if l := x.Read(c.id, strings.Fields(c.keys)...); said(l) != c.told || rows(x) != c.rows {
			t.Errorf("%d: %q, not %q; %q, not %q", i, said(l), c.told, rows(x), c.rows)
		}
	}
}

// P16.4: of every kind of event but EventFlush the row goes, and its clients and
// those of beginnings are told, rising, each once.
func TestChange(t *testing.T) {
	for i, c := range []struct {
		reads, key string
		told, rows string
	}{
		{"", "x", "", ""},
		{"1x", "y", "", "x:1"},
		{"1x", "x", "k1>1x", ""},
		{"2x", "x", "k2>3x", ""},
		{"3x 2x 1x", "x", "k1>1x k2>3x k3>3x", ""},
		{"3x 1y 1x 2y", "x", "k1>1x k3>3x", "y:1,2"},
		{"", "a", "k4>4a", ""},
		{"", "ab", "k4>4ab k5>1ab", ""},
		{"", "abc", "k4>4abc k5>1abc", ""},
		{"", "b", "k4>4b", ""},
		{"", "c", "k5>1c", ""},
		{"", "", "", ""},
		{"1ab", "ab", "k4>4ab k5>1ab", "a:1 b:1"},
		{"3a 1a", "a", "k1>1a k3>3a k4>4a", ""},
		{"6c 2c 3a", "c", "k2>3c k5>1c k6>6c", "a:3"},
		{"1-", "", "k1>1", ""}, // the empty key
		{"1x", "X", "", "x:1"},
		{"1x", "xx", "", "x:1"},
	} {
		for _, kind := range otherEvents {
			x := trackOf(t, 10, "on", "on redirect 3", "on", "on bcast prefix a prefix b", "on bcast redirect 1 prefix ab prefix c", "on")
			for _, w := range strings.Fields(c.reads) {
				for _, key := range strings.Split(w[1:], "") {
					x.Read(int(w[0]-'0'), strings.ReplaceAll(key, "-", ""))
				}
			}
			if l := x.Change(i%8, event(kind, c.key)); said(l) != c.told || rows(x) != c.rows {
				t.Errorf("%d, %d: %q, not %q; %q, not %q", i, kind, said(l), c.told, rows(x), c.rows)
			}
		}
	}
}

// P16.4: who was told of a row's key isn't again, till it has read it again; who
// is told of beginnings is each time.
func TestChangeAgain(t *testing.T) {
	x := trackOf(t, 10, "on", "on bcast prefix k")
	x.Read(1, "k", "l")
	for i, want := range []string{"k1>1k k2>2k", "k2>2k", "k2>2k"} {
		if l := x.Change(0, event(api.EventSet, "k")); said(l) != want || rows(x) != "l:1" {
			t.Error(i, said(l), rows(x))
		}
	}
	x.Read(1, "k")
	if l := x.Change(0, event(api.EventSet, "k")); said(l) != "k1>1k k2>2k" {
		t.Error(said(l))
	}
}

// P16.4: by itself a client with NoLoop is not told that it has set a key, or
// that it has gone; its row is none any more all the same.
func TestNoLoop(t *testing.T) {
	for _, words := range []string{"on", "on optout", "on bcast prefix k", "on redirect 3", "on bcast redirect 3"} {
		for _, noLoop := range []string{"", " noloop"} {
			for by := range 5 {
				for _, kind := range otherEvents {
					x := trackOf(t, 10, words+noLoop, "on noloop", "on noloop")
					x.Read(1, "k")
					x.Read(2, "k")
					to := "1"
					if strings.Contains(words, "redirect") {
						to = "3"
					}
					own := kind == api.EventSet || kind == api.EventGone
					var want []string
					if !(own && noLoop != "" && by == 1) {
						want = append(want, "k1>"+to+"k")
					}
					if !(own && by == 2) {
						want = append(want, "k2>2k")
					}
					l := x.Change(by, event(kind, "k"))
					if said(l) != strings.Join(want, " ") || x.Len() != 0 {
						t.Errorf("%s, by %d, %d: %q, not %q; %q", words+noLoop, by, kind, said(l), want, rows(x))
					}
				}
			}
		}
	}
}

// P16.4: NoLoop holds for what a client does, not for what is sent to it.
func TestNoLoopOfTheRedirected(t *testing.T) {
	x := trackOf(t, 10, "on", "on noloop redirect 1")
	x.Read(1, "k")
	x.Read(2, "k")
	if l := x.Change(1, event(api.EventSet, "k")); said(l) != "k1>1k k2>1k" {
		t.Error(said(l))
	}
	x.Read(2, "k")
	if l := x.Change(2, event(api.EventGone, "k")); len(l) != 0 || x.Len() != 0 {
		t.Error(said(l), rows(x))
	}
}

// P16.4: at an EventFlush each client that is On is told of all, rising, with NoLoop too,
// with an empty Key whatever the event's is; the rows go, the beginnings stay.
func TestFlush(t *testing.T) {
	for by := range 9 {
		x := New(10)
		for _, id := range []int{7, 3, 1, 5, 2, 6, 4} {
			x.Join(id)
		}
		for id, words := range []string{1: "on", 2: "off", 3: "on noloop", 4: "on bcast prefix k noloop", 5: "on optin redirect 2", 6: "on optout redirect 5", 7: "off"} {
			if id > 0 && x.Set(id, modeOf(t, words)) != api.OK {
				t.Fatal(id)
			}
		}
		x.Read(1, "k", "l")
		x.Read(6, "k")
		for _, key := range []string{"", "k"} {
			if l := x.Change(by, event(api.EventFlush, key)); said(l) != "*1>1 *3>3 *4>4 *5>2 *6>5" || x.Len() != 0 {
				t.Error(by, key, said(l), rows(x))
			}
		}
		if l := x.Change(0, event(api.EventSet, "k")); said(l) != "k4>4k" || strings.Join(x.Of(4), " ") != "k" {
			t.Error(by, said(l), x.Of(4))
		}
	}
}

// P16.4: event by event, in order.
func TestEventsInOrder(t *testing.T) {
	x := trackOf(t, 10, "on", "on bcast prefix b", "on noloop")
	x.Read(1, "a", "b", "c", "d")
	x.Read(3, "a", "d")
	l := x.Change(3, event(api.EventSet, "b"), event(api.EventGone, "a"), event(api.EventSet, "b"), event(api.EventEvicted, "d"), event(api.EventFlush, ""), event(api.EventExpired, "c"), event(api.EventSet, "b"))
	if s := said(l); s != "k1>1b k2>2b k1>1a k2>2b k1>1d k3>3d *1>1 *2>2 *3>3 k2>2b" {
		t.Error(s)
	}
	if l := x.Change(3); len(l) != 0 {
		t.Error(said(l))
	}
}

// P16.5: who leaves is told nothing, and in no row, nor of a beginning; those that
// were redirected to it are told so, rising, and aren't any more.
func TestLeave(t *testing.T) {
	for id, want := range []string{1: "x3>3 x5>5 x6>6", 2: "", 3: "x4>4", 4: "", 5: "", 6: "", 7: "", 8: ""} {
		x := New(10)
		for _, i := range []int{6, 3, 1, 5, 2, 4} {
			x.Join(i)
		}
		for i, words := range []string{1: "on", 2: "on bcast", 3: "on redirect 1", 4: "on redirect 3", 5: "on optin redirect 1", 6: "on bcast prefix a redirect 1"} {
			if i > 0 && x.Set(i, modeOf(t, words)) != api.OK {
				t.Fatal(i)
			}
		}
		for i := range 7 {
			x.Read(i, "a", "r"+strconv.Itoa(i))
		}
		clients := slices.DeleteFunc(x.Clients(), func(i int) bool { return i == id })
		if l := x.Leave(id); said(l) != want {
			t.Errorf("%d: %q, not %q", id, said(l), want)
		}
		if l := x.Clients(); !slices.Equal(l, clients) {
			t.Error(id, l)
		}
		if m, ok := x.Mode(id); ok || m.On || len(x.Of(id)) != 0 || slices.Contains(x.Ids("a"), id) || len(x.Ids("r"+strconv.Itoa(id))) != 0 {
			t.Error(id, whole(x))
		}
		for _, i := range clients {
			if m, _ := x.Mode(i); !m.On || id > 0 && m.Redirect == id {
				t.Error(id, i, m)
			}
		}
		if l := x.Leave(id); len(l) != 0 {
			t.Error(id, "again:", said(l))
		}
	}
}

// P16.5: all else of a mode that was redirected is as it was, and the client is told
// itself from then on, also when the one it was redirected to joins again.
func TestLeaveOfTheRedirectedTo(t *testing.T) {
	x := trackOf(t, 10, "off", "on optout noloop redirect 1", "on bcast redirect 1 prefix k", "on redirect 2")
	x.Caching(2, false)
	x.Done(2)
	x.Read(2, "k")
	x.Read(4, "k")
	if l := x.Leave(1); said(l) != "x2>2 x3>3" || !slices.Equal(l, []api.Notice{{Kind: api.NoticeBroken, To: 2, For: 2}, {Kind: api.NoticeBroken, To: 3, For: 3}}) {
		t.Error(said(l))
	}
	if s := whole(x); s != "k:2,4 | 2 on optout noloop 0   | 3 on bcast 0 k k | 4 on 2   | " {
		t.Errorf("%q", s)
	}
	x.Join(1)
	if l := x.Change(0, event(api.EventSet, "k"), event(api.EventFlush, "")); said(l) != "k2>2k k3>3k k4>2k *2>2 *3>3 *4>2" {
		t.Error(said(l))
	}
	if l := x.Leave(1); len(l) != 0 {
		t.Error(said(l))
	}
}

// P16.5: what a client said stays when the one it is redirected to leaves.
func TestLeaveOfAnotherForgetsNothing(t *testing.T) {
	x := trackOf(t, 10, "on", "on optin redirect 1", "on optout")
	x.Caching(2, true)
	x.Caching(3, false)
	x.Leave(1)
	x.Read(2, "k")
	x.Read(3, "k")
	if s := rows(x); s != "k:2" {
		t.Error(s)
	}
}

// P16.5: two that are redirected to each other.
func TestRedirectedToEachOther(t *testing.T) {
	x := trackOf(t, 10, "on", "on redirect 1")
	if e := x.Set(1, modeOf(t, "on redirect 2")); e != api.OK {
		t.Fatal(e)
	}
	x.Read(1, "k")
	x.Read(2, "k")
	if l := x.Change(0, event(api.EventSet, "k")); said(l) != "k1>2k k2>1k" {
		t.Error(said(l))
	}
	if l := x.Leave(2); said(l) != "x1>1" {
		t.Error(said(l))
	}
	if l := x.Leave(1); len(l) != 0 || len(x.Clients()) != 0 {
		t.Error(said(l))
	}
}

// chance makes what a test takes by chance.
type chance struct {
	*rand.Rand
	clients int
	letters string
}

func (c chance) key() string {
	l := make([]byte, c.Intn(4))
	for i := range l {
		l[i] = c.letters[c.Intn(len(c.letters))]
	}
	return string(l)
}

func (c chance) keys() []string {
	l := make([]string, c.Intn(5))
	for i := range l {
		l[i] = c.key()
	}
	return l
}

func (c chance) id() int { return c.Intn(c.clients+2) - 1 }

// mode is one that can be, but now and then.
func (c chance) mode() api.Mode {
	if c.Intn(5) == 0 {
		return api.Mode{}
	}
	m := api.Mode{On: true, NoLoop: c.Intn(2) == 0}
	switch c.Intn(5) {
	case 0:
		m.OptIn = true
	case 1:
		m.OptOut = true
	case 2, 3:
		m.Bcast, m.Prefixes = true, c.keys()
		slices.Sort(m.Prefixes)
		m.Prefixes = slices.Compact(m.Prefixes)
	}
	if c.Intn(2) == 0 {
		m.Redirect = c.id()
	}
	if c.Intn(20) == 0 {
		m.OptOut = true
	}
	return m
}

func (c chance) events() []api.Event {
	l := make([]api.Event, c.Intn(4))
	for i := range l {
		l[i] = event(otherEvents[c.Intn(len(otherEvents))], c.key())
		if c.Intn(8) == 0 {
			l[i].Kind = api.EventFlush
		}
	}
	return l
}

// P16.1 to P16.5: many calls by chance, held against a plain Track.
func TestManyCalls(t *testing.T) {
	for seed := range 120 {
		c := chance{rand.New(rand.NewSource(int64(seed))), 1 + seed%8, []string{"a", "ab", "ab\x00\xff", "abcdefgh"}[seed%4]}
		b := bothOf(t, []int{1, 2, 3, 5, 20, 1000}[seed%6])
		for range 400 {
			switch n := c.Intn(100); {
			case n < 8:
				b.join(c.id())
			case n < 12:
				b.leave(c.id())
			case n < 30:
				b.set(c.id(), c.mode())
			case n < 40:
				b.caching(c.id(), c.Intn(2) == 0)
			case n < 45:
				b.done(c.id())
			case n < 75:
				b.read(c.id(), c.keys()...)
			default:
				b.change(c.id(), c.events()...)
			}
		}
	}
}

// P1: every call ends, and none panics, at any numbers, keys and modes.
func TestAnyArguments(t *testing.T) {
	keys := []string{"", "a", "\x00", "\xff\xfe", "é", strings.Repeat("k", 512), strings.Repeat("k", 513), strings.Repeat("k", 100000)}
	modes := append([]api.Mode{{}, {On: true}, {On: true, OptIn: true}, {On: true, OptOut: true, NoLoop: true}, {On: true, Bcast: true, Prefixes: []string{""}}, {On: true, Bcast: true, Prefixes: []string{"\x00", strings.Repeat("k", 512)}}, {On: true, Bcast: true, Prefixes: make([]string, 100000)}}, wrongModes...)
	for seed := range 10 {
		c := rand.New(rand.NewSource(int64(seed)))
		id := func() int { return oddIds[c.Intn(len(oddIds))] }
		b := bothOf(t, []int{math.MinInt, 1, 3, math.MaxInt}[seed%4])
		for range 300 {
			b.join(id())
			m := modes[c.Intn(len(modes))]
			if c.Intn(2) == 0 {
				m.Redirect = id()
			}
			b.set(id(), m)
			b.caching(id(), c.Intn(2) == 0)
			b.read(id(), keys[c.Intn(len(keys))], keys[c.Intn(len(keys))])
			b.change(id(), event(otherEvents[c.Intn(len(otherEvents))], keys[c.Intn(len(keys))]))
			b.done(id())
			if c.Intn(9) == 0 {
				b.leave(id())
				b.change(id(), event(api.EventFlush, keys[c.Intn(len(keys))]))
			}
		}
	}
}

// P1: many clients, keys and events, and no call that takes long.
func TestMany(t *testing.T) {
	const many = 3000
	x := New(many)
	for id := many; id >= 1; id-- {
		x.Join(id)
	}
	x.Set(1, modeOf(t, "on bcast prefix e"))
	for id := 2; id <= many; id++ {
		if e := x.Set(id, modeOf(t, "on redirect 1")); e != api.OK {
			t.Fatal(id, e)
		}
		x.Read(id, "all", "k"+strconv.Itoa(id))
	}
	if l := x.Change(0, event(api.EventSet, "all")); len(l) != many-1 || l[0].For != 2 || l[many-2].For != many {
		t.Fatal(len(l))
	}
	events := make([]api.Event, 100*many)
	for i := range events {
		events[i] = event(api.EventSet, "e"+strconv.Itoa(i))
	}
	if l := x.Change(1, events...); len(l) != len(events) {
		t.Fatal(len(l))
	}
	keys := make([]string, 100*many)
	for i := range keys {
		keys[i] = "r" + strconv.Itoa(i)
	}
	if l := x.Read(2, keys...); len(l) != 100*many-1 || x.Len() != many {
		t.Fatal(len(l), x.Len())
	}
	if l := x.Leave(1); len(l) != many-1 || x.Len() != many {
		t.Fatal(len(l))
	}
	for id := 2; id <= many; id++ {
		if l := x.Leave(id); len(l) != 0 {
			t.Fatal(id, len(l))
		}
	}
	if x.Len() != 0 || len(x.Clients()) != 0 {
		t.Error(x.Len(), x.Clients())
	}
}

// P16.5: what has gone isn't kept.
func TestNothingIsKeptOfWhatHasGone(t *testing.T) {
	x := New(10)
	for i := range 500 {
		id := 1 + i%20
		x.Join(id)
		x.Set(id, modeOf(t, []string{"on", "on bcast", "on optin redirect 1"}[i%3]))
		x.Read(id, strconv.Itoa(i))
		x.Leave(1 + (i+7)%20)
	}
	for id := range 21 {
		x.Leave(id)
	}
	if len(x.clients) != 0 || x.rows.Len() != 0 || x.prefixes.Len() != 0 || x.prefixes.Nodes() != 1 {
		t.Error(len(x.clients), x.rows.Len(), x.prefixes.Len(), x.prefixes.Nodes())
	}
}

// P2: two that were used alike answer alike, and neither knows of the other.
func TestEachIsItsOwn(t *testing.T) {
	c := chance{rand.New(rand.NewSource(16)), 5, "ab"}
	a, b, other := New(4), New(4), New(4)
	for range 2000 {
		id, m, keys, events := c.id(), c.mode(), c.keys(), c.events()
		other.Join(id)
		other.Set(id, api.Mode{On: true})
		other.Read(id, keys...)
		if a.Join(id) != b.Join(id) || a.Set(id, m) != b.Set(id, m) || a.Caching(id, true) != b.Caching(id, true) || !slices.Equal(a.Read(id, keys...), b.Read(id, keys...)) {
			t.Fatal(id, m)
		}
		other.Change(id, events...)
		other.Done(id)
		if !slices.Equal(a.Change(id, events...), b.Change(id, events...)) || whole(a) != whole(b) {
			t.Fatal(whole(a), whole(b))
		}
		other.Leave(id)
		if c.Intn(9) == 0 && !slices.Equal(a.Leave(id), b.Leave(id)) {
			t.Fatal(id)
		}
	}
	if len(other.Clients()) != 0 {
		t.Error(other.Clients())
	}
}

// spoil writes over a list, its spare room included.
func spoil[T any](l []T, by T) {
	for i := range l[:cap(l)] {
		l[:cap(l)][i] = by
	}
}

// P16.1 to P16.5: what is answered is the asker's, its spare room too: it changes
// nothing, and no later call changes it.
func TestAnswersAreNew(t *testing.T) {
	x := trackOf(t, 3, "on", "on", "on bcast prefix k prefix x", "on redirect 1")
	for _, id := range []int{4, 2, 1} {
		x.Read(id, "a", "b", "c")
	}
	was := whole(x)
	clients, ids, of, all := x.Clients(), x.Ids("a"), x.Of(3), x.Rows()
	m, _ := x.Mode(3)
	spoil(clients, noId)
	spoil(ids, noId)
	spoil(of, "other")
	spoil(all, "other")
	spoil(m.Prefixes, "other")
	if s := whole(x); s != was {
		t.Error(s)
	}
	clients, ids, of, all = x.Clients(), x.Ids("a"), x.Of(3), x.Rows()
	m, _ = x.Mode(3)
	read := x.Read(1, "d")
	changed := x.Change(0, event(api.EventSet, "b"), event(api.EventSet, "k"))
	flushed := x.Change(0, event(api.EventFlush, ""))
	left := x.Leave(1)
	x.Set(3, modeOf(t, "on bcast prefix b"))
	x.Read(2, "a", "b", "c", "d")
	x.Join(9)
	if digits(clients) != "1,2,3,4" || digits(ids) != "1,2,4" || strings.Join(of, " ") != "k x" || strings.Join(all, " ") != "a b c" || strings.Join(m.Prefixes, " ") != "k x" {
		t.Error(clients, ids, of, all, m)
	}
	if s := said(read) + " " + said(changed) + " " + said(flushed) + " " + said(left); s != "k1>1a k2>2a k4>1a k1>1b k2>2b k4>1b k3>3k *1>1 *2>2 *3>3 *4>1 x4>4" {
		t.Error(s)
	}
	was = whole(x)
	for _, l := range [][]api.Notice{read, changed, flushed, left} {
		spoil(l, api.Notice{})
	}
	if s := whole(x); s != was {
		t.Error(s)
	}
}

// P16.2, P16.3, P16.4: what is handed in is not changed, spare room included, and
// may be written over behind the call.
func TestArgumentsAreTheAskers(t *testing.T) {
	room := []string{"b", "d", "spare"}
	for _, words := range []string{"off", "on bcast prefix c"} { // an own list, and one of both
		x := trackOf(t, 10, words, "on")
		if e := x.Set(1, api.Mode{On: true, Bcast: true, Prefixes: room[:2]}); e != api.OK {
			t.Fatal(e)
		}
		if strings.Join(room, " ") != "b d spare" {
			t.Error(room)
		}
		was := whole(x)
		spoil(room[:0], "other")
		if s := whole(x); s != was {
			t.Error(s)
		}
		copy(room, []string{"b", "d", "spare"})
		x.Read(2, room[:2]...)
		events := []api.Event{event(api.EventSet, "b"), event(api.EventFlush, "d"), event(9, "spare")}
		x.Change(0, events[:1]...)
		if strings.Join(room, " ") != "b d spare" || events[0] != event(api.EventSet, "b") || events[1] != event(api.EventFlush, "d") || events[2] != event(9, "spare") {
			t.Error(room, events)
		}
		room[1] = "other"
		if s := rows(x); s != "d:2" {
			t.Error(s)
		}
		copy(room, []string{"b", "d", "spare"})
	}
}

// P16.2: a list without elements is none; its spare room isn't kept.
func TestListsWithoutElements(t *testing.T) {
	x := trackOf(t, 10, "off")
	spare := make([]string, 3)
	if e := x.Set(1, api.Mode{On: true, Prefixes: spare[:0]}); e != api.OK {
		t.Fatal(e)
	}
	if m, _ := x.Mode(1); len(m.Prefixes) != 0 || cap(m.Prefixes) > 0 && &m.Prefixes[:1][0] == &spare[0] {
		t.Errorf("%+v", m)
	}
	if e := x.Set(1, api.Mode{Prefixes: spare[:0]}); e != api.OK {
		t.Error(e)
	}
	if len(x.Read(1)) != 0 || len(x.Change(1)) != 0 || len(x.Read(1, []string{}...)) != 0 || len(x.Change(1, []api.Event{}...)) != 0 {
		t.Error("notices of nothing")
	}
}
