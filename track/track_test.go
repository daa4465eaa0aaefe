package track

import (
	"math"
	"slices"
	"strconv"
	"strings"
	"testing"

	"nearhand/api"
	"nearhand/mode"
)

// The calls' signatures are part of what is promised.
var (
	_ func(int) *Track                             = New
	_ func(*Track, int) bool                       = (*Track).Join
	_ func(*Track, int) []api.Notice               = (*Track).Leave
	_ func(*Track, int) (api.Mode, bool)           = (*Track).Mode
	_ func(*Track, int, api.Mode) api.Errno        = (*Track).Set
	_ func(*Track, int, bool) api.Errno            = (*Track).Caching
	_ func(*Track, int)                            = (*Track).Done
	_ func(*Track, int, ...string) []api.Notice    = (*Track).Read
	_ func(*Track, int, ...api.Event) []api.Notice = (*Track).Change
	_ func(*Track) []string                        = (*Track).Rows
	_ func(*Track, string) []int                   = (*Track).Ids
	_ func(*Track, int) []string                   = (*Track).Of
	_ func(*Track) int                             = (*Track).Len
	_ func(*Track) []int                           = (*Track).Clients
)

// modeOf is what words say, as layer 13 parses them.
func modeOf(t *testing.T, words string) api.Mode {
	t.Helper()
	m, e := mode.Parse(strings.Fields(words)...)
	if e != api.OK {
		t.Fatal(words, e)
	}
	return m
}

// trackOf has clients from 1 on, each with the mode of its words; those of later
// ones may redirect to it, as all join first.
func trackOf(t *testing.T, most int, words ...string) *Track {
	t.Helper()
	x := New(most)
	for i := range words {
		x.Join(i + 1)
	}
	for i, w := range words {
		if e := x.Set(i+1, modeOf(t, w)); e != api.OK {
			t.Fatal(w, e)
		}
	}
	return x
}

// rows are all rows as words, each a key and its clients.
func rows(x *Track) string {
	var words []string
	for _, key := range x.Rows() {
		words = append(words, key+":"+digits(x.Ids(key)))
	}
	return strings.Join(words, " ")
}

// whole is all that can be asked.
func whole(x *Track) string {
	s := rows(x) + " | "
	for _, id := range x.Clients() {
		m, _ := x.Mode(id)
		s += strconv.Itoa(id) + " " + strings.Join(mode.Flags(m), " ") + " " + strconv.Itoa(m.Redirect) + " " + strings.Join(m.Prefixes, ",") + " " + strings.Join(x.Of(id), ",") + " | "
	}
	return s
}

// oddIds are numbers that are easily taken for another one, or for none.
var oddIds = []int{math.MinInt, math.MinInt32, -1000000000, -2, -1, 0, 1, 2, 9, 10, 255, 256, 1000000000, 1000000001, math.MaxInt32, math.MaxUint32, 1 << 32, 1<<32 + 1, math.MaxInt - 1, math.MaxInt}

// P16.1
func TestNewHasNone(t *testing.T) {
	for _, most := range []int{1, 2, 1000, 0, -1, math.MaxInt, math.MinInt} {
		b := bothOf(t, most)
		for _, id := range oddIds {
			b.leave(id)
			b.set(id, api.Mode{})
			b.set(id, api.Mode{On: true})
			b.caching(id, true)
			b.done(id)
			b.read(id, "a", "b")
			b.change(id, api.Event{Kind: api.EventSet, Key: "a"}, api.Event{Kind: api.EventFlush})
		}
	}
	if New(1) == New(1) {
		t.Error("one for two")
	}
}

// P16.1: the bound is layer 14's, 1 at least.
func TestBound(t *testing.T) {
	for _, c := range []struct {
		most int
		want string
	}{{math.MinInt, "c:1"}, {-1, "c:1"}, {0, "c:1"}, {1, "c:1"}, {2, "b:1 c:1"}, {3, "a:1 b:1 c:1"}, {math.MaxInt, "a:1 b:1 c:1"}} {
		x := trackOf(t, c.most, "on")
		x.Read(1, "a", "b", "c")
		if s := rows(x); s != c.want || x.Len() != len(strings.Fields(c.want)) {
			t.Error(c.most, s, x.Len())
		}
	}
}

// P16.1: numbers from 1 on join, each once, and again behind a Leave.
func TestJoin(t *testing.T) {
	x := New(10)
	for _, id := range oddIds {
		if x.Join(id) != (id >= 1) || x.Join(id) {
			t.Error(id)
		}
	}
	if l := x.Clients(); !slices.Equal(l, oddIds[6:]) {
		t.Error(l)
	}
	x.Leave(9)
	x.Leave(0)
	if !x.Join(9) || x.Join(9) || x.Join(0) || len(x.Clients()) != len(oddIds)-6 {
		t.Error(x.Clients())
	}
}

// P16.1: who joins has a zero Mode; who is there already loses nothing by it.
func TestJoinAgain(t *testing.T) {
	x := New(10)
	x.Join(2)
	x.Join(1)
	if m, ok := x.Mode(1); !ok || !mode.Same(m, api.Mode{}) {
		t.Error(m, ok)
	}
	x.Set(1, modeOf(t, "on optin noloop redirect 2"))
	x.Caching(1, true)
	x.Read(1, "a")
	was := whole(x)
	if x.Join(1) || whole(x) != was {
		t.Error(whole(x))
	}
	if x.Read(1, "b"); rows(x) != "a:1 b:1" {
		t.Error("what it said is forgotten:", rows(x))
	}
}

// P16.1, P16.5: who leaves and joins again has nothing of what it had.
func TestJoinAnew(t *testing.T) {
	for _, words := range []string{"on", "on bcast prefix a", "on optin", "on optout", "on noloop redirect 2"} {
		x := trackOf(t, 10, words, "on", "on redirect 1")
		x.Caching(1, true)
		x.Caching(1, false)
		x.Read(1, "a", "b")
		x.Leave(1)
		if !x.Join(1) {
			t.Error("not new")
		}
		if s := whole(x); s != " | 1 off 0   | 2 on 0   | 3 on 0   | " {
			t.Errorf("%s: %q", words, s)
		}
		if l := x.Change(0, event(api.EventSet, "a"), event(api.EventFlush, "")); said(l) != "*2>2 *3>3" {
			t.Error(words, said(l))
		}
		// Had it still said what it said, OptIn would track, and OptOut wouldn't.
		x.Set(1, modeOf(t, "on optin"))
		x.Read(1, "c")
		x.Set(1, api.Mode{})
		x.Set(1, modeOf(t, "on optout"))
		x.Read(1, "d")
		if s := rows(x); s != "d:1" {
			t.Error(words, s)
		}
	}
}

// P16.1: a Mode is what it was Set, of that client alone.
func TestMode(t *testing.T) {
	words := []string{"off", "on", "on noloop", "on optin", "on optout noloop", "on bcast", "on bcast prefix b prefix a noloop", "on redirect 1", "on bcast redirect 2 prefix x"}
	x := trackOf(t, 10, words...)
	for i, w := range words {
		if m, ok := x.Mode(i + 1); !ok || !mode.Same(m, modeOf(t, w)) {
			t.Errorf("%s: %+v, %t", w, m, ok)
		}
	}
	for _, id := range []int{0, -1, len(words) + 1, math.MinInt, math.MaxInt, noId} {
		if m, ok := x.Mode(id); ok || !mode.Same(m, api.Mode{}) {
			t.Errorf("%d: %+v, %t", id, m, ok)
		}
	}
}

// P16.1: rising, in whichever order they joined.
func TestClients(t *testing.T) {
	x := New(10)
	var want []int
	for i := range 500 {
		x.Join(1 + i*i%317*3)
		want = append(want, 1+i*i%317*3)
	}
	slices.Sort(want)
	want = slices.Compact(want)
	if l := x.Clients(); !slices.Equal(l, want) {
		t.Error(l)
	}
	x.Leave(want[3])
	if l := x.Clients(); !slices.Equal(l, slices.Delete(want, 3, 4)) {
		t.Error(l)
	}
}

// wrongModes can't be.
var wrongModes = []api.Mode{
	{Bcast: true}, {OptIn: true}, {OptOut: true}, {NoLoop: true}, {Redirect: 1}, {Redirect: 7}, {Prefixes: []string{"a"}},
	{On: true, OptIn: true, OptOut: true},
	{On: true, Bcast: true},
	{On: true, Bcast: true, OptIn: true, Prefixes: []string{"a"}},
	{On: true, Bcast: true, OptOut: true, Prefixes: []string{"a"}},
	{On: true, Prefixes: []string{"a"}},
	{On: true, Bcast: true, Prefixes: []string{"b", "a"}},
	{On: true, Bcast: true, Prefixes: []string{"a", "a"}},
	{On: true, Bcast: true, Prefixes: []string{"a", "ab"}},
	{On: true, Bcast: true, Prefixes: []string{strings.Repeat("k", 513)}},
	{On: true, Bcast: true, Prefixes: make([]string, 33)},
	{On: true, Redirect: -1}, {On: true, Redirect: math.MinInt}, {On: true, Redirect: 1000000001}, {On: true, Redirect: math.MaxInt},
	{On: true, Bcast: true, Redirect: 7},
}

// P16.2: the errors, the first that applies, at which nothing has changed.
func TestSetErrors(t *testing.T) {
	begin := func() *Track {
		x := trackOf(t, 10, "on optin noloop redirect 2", "off", "on bcast prefix a prefix c", "on")
		x.Caching(1, true)
		x.Read(1, "a", "b")
		x.Read(4, "b", "c")
		return x
	}
	refused := func(x *Track, id int, m api.Mode, want api.Errno) {
		t.Helper()
		was := whole(x)
		if e := x.Set(id, m); e != want || whole(x) != was {
			t.Errorf("%d, %+v: %d, not %d: %s", id, m, e, want, whole(x))
		}
	}
	x := begin()
	for _, m := range wrongModes {
		for id := 1; id <= 4; id++ {
			refused(x, id, m, api.ErrModes)
		}
		refused(x, 5, m, api.ErrClient) // ahead of that: it is no client
		refused(x, 0, m, api.ErrClient)
	}
	for _, id := range []int{0, -1, 5, math.MaxInt, math.MinInt} {
		refused(x, id, api.Mode{}, api.ErrClient)
		refused(x, id, api.Mode{On: true}, api.ErrClient)
	}
	for _, to := range []int{5, 6, 1000000000} {
		for id := 1; id <= 4; id++ {
			refused(x, id, api.Mode{On: true, Redirect: to}, api.ErrClient)
		}
	}
	for id := 1; id <= 4; id++ {
		refused(x, id, api.Mode{On: true, Redirect: id}, api.ErrClient)
		refused(x, id, api.Mode{On: true, Bcast: true, Redirect: id, Prefixes: []string{"x"}}, api.ErrClient)
	}
	// Ahead of Switch's error comes that of the Redirect.
	refused(x, 1, modeOf(t, "on optout redirect 9"), api.ErrClient)
	refused(x, 1, modeOf(t, "on optout redirect 1"), api.ErrClient)
	for _, w := range []string{"on", "on optout", "on bcast", "on optout redirect 2", "on redirect 4"} {
		refused(x, 1, modeOf(t, w), api.ErrModes)
	}
	for _, w := range []string{"on", "on optin", "on bcast prefix ab", "on bcast", "on bcast prefix b prefix cc redirect 1"} {
		refused(x, 3, modeOf(t, w), api.ErrModes)
	}
	many := modeOf(t, "on bcast")
	many.Prefixes = nil
	for i := range 31 {
		many.Prefixes = append(many.Prefixes, "p"+strconv.Itoa(100+i))
	}
	refused(x, 3, many, api.ErrModes) // 33 together
	if e := x.Set(2, many); e != api.OK {
		t.Error(e)
	}
	// What it said is there still.
	if x.Read(1, "d"); digits(x.Ids("d")) != "1" {
		t.Error(rows(x))
	}
	// And who is told of beginnings is.
	if l := x.Change(0, event(api.EventSet, "cc")); said(l) != "k3>3cc" {
		t.Error(said(l))
	}
}

// P16.2: a Redirect to any other client, and to one that is redirected itself;
// notices go there from then on.
func TestSetRedirect(t *testing.T) {
	x := trackOf(t, 10, "on", "off", "on redirect 1", "on redirect 3")
	if m, _ := x.Mode(4); m.Redirect != 3 {
		t.Error(m)
	}
	for _, c := range []struct {
		words, want string
	}{
		{"on redirect 3", "k1>3k k4>3k"}, {"on redirect 4", "k1>4k k4>3k"}, {"on", "k1>1k k4>3k"}, {"on redirect 2 redirect 2", "k1>2k k4>3k"},
	} {
		if e := x.Set(1, modeOf(t, c.words)); e != api.OK {
			t.Error(c.words, e)
		}
		x.Read(1, "k")
		x.Read(4, "k")
		if l := x.Change(0, event(api.EventSet, "k")); said(l) != c.want {
			t.Error(c.words, said(l))
		}
	}
	x.Join(1000000000)
	if e := x.Set(2, modeOf(t, "on redirect 1000000000")); e != api.OK {
		t.Error(e)
	}
	if l := x.Change(0, event(api.EventFlush, "")); said(l) != "*1>2 *2>1000000000 *3>1 *4>3" {
		t.Error(said(l))
	}
	x.Join(math.MaxInt) // no Redirect can be so great, but it may be a client
	if e := x.Set(2, api.Mode{On: true, Redirect: math.MaxInt}); e != api.ErrModes {
		t.Error(e)
	}
}

// P16.2: Prefixes are those of the Mode: the ones before it and the new ones,
// and behind another kind of Mode none.
func TestSetPrefixes(t *testing.T) {
	x := trackOf(t, 10, "off", "on bcast prefix a")
	for i, c := range []struct{ words, of, match string }{
		{"on bcast prefix b", "b", "k1>1b k2>2a"},
		{"on bcast prefix a noloop", "a b", "k1>1b k1>1a k2>2a"},
		{"on bcast prefix a", "a b", "k1>1b k1>1a k2>2a"},
		{"off", "", "k2>2a"},
		{"on bcast", "-", "k1>1b k1>1c k1>1a k2>2a"},
		{"on bcast", "-", "k1>1b k1>1c k1>1a k2>2a"},
		{"off", "", "k2>2a"},
		{"on", "", "k2>2a"},
		{"off", "", "k2>2a"},
		{"on bcast prefix c prefix aa", "aa c", "k1>1c k2>2a"},
	} {
		if e := x.Set(1, modeOf(t, c.words)); e != api.OK {
			t.Fatal(i, e)
		}
		m, _ := x.Mode(1)
		for _, l := range [][]string{x.Of(1), m.Prefixes} {
			if s := strings.Join(l, " "); s != c.of && !(c.of == "-" && slices.Equal(l, []string{""})) {
				t.Errorf("%d: %q", i, l)
			}
		}
		if l := x.Change(0, event(api.EventSet, "b"), event(api.EventSet, "c"), event(api.EventSet, "a")); said(l) != c.match {
			t.Error(i, said(l))
		}
		if s := strings.Join(x.Of(2), " "); s != "a" {
			t.Error(i, s)
		}
	}
}

// P16.2: what isn't On leaves the rows, its own alone; it says nothing any more.
func TestSetOff(t *testing.T) {
	x := trackOf(t, 10, "on optin", "on", "on optout")
	x.Caching(1, true)
	x.Caching(3, false)
	x.Read(1, "a", "b", "c")
	x.Read(2, "c", "d")
	if s := rows(x); s != "a:1 b:1 c:1,2 d:2" {
		t.Error(s)
	}
	for _, id := range []int{1, 3, 1} {
		if e := x.Set(id, api.Mode{}); e != api.OK || rows(x) != "c:2 d:2" {
			t.Error(id, e, rows(x))
		}
	}
	x.Set(1, modeOf(t, "on optin"))
	x.Set(3, modeOf(t, "on optout"))
	x.Read(1, "d")
	x.Read(3, "d")
	if s := rows(x); s != "c:2 d:2,3" {
		t.Error("what it said is there still, or has gone:", s)
	}
}

// P16.2: from On to On the rows stay, and what it said.
func TestSetOnStays(t *testing.T) {
	for _, words := range []string{"on", "on optin", "on optout"} {
		x := trackOf(t, 10, words, "on")
		x.Caching(1, true)
		x.Read(1, "a", "b")
		x.Caching(1, false)
		for _, more := range []string{"", " noloop", " redirect 2", " redirect 2 noloop"} {
			if e := x.Set(1, modeOf(t, words+more)); e != api.OK || rows(x) != "a:1 b:1" {
				t.Error(words+more, e, rows(x))
			}
		}
		x.Read(1, "c")
		if s := digits(x.Ids("c")); (s == "1") != (words != "on optout") {
			t.Errorf("%s: %q", words, s)
		}
	}
}

// P16.3: which errors, and what was said is what was said last.
func TestCaching(t *testing.T) {
	for _, c := range []struct {
		words   string
		yes, no api.Errno
		read    string // with nothing, yes, no, and no and yes said
	}{
		{"off", api.ErrModes, api.ErrModes, ""},
		{"on", api.ErrModes, api.ErrModes, "none yes no both"},
		{"on noloop", api.ErrModes, api.ErrModes, "none yes no both"},
		{"on bcast", api.ErrModes, api.ErrModes, ""},
		{"on optin", api.OK, api.ErrModes, "yes both"},
		{"on optout", api.ErrModes, api.OK, "none yes"},
	} {
		x := trackOf(t, 10, c.words)
		x.Read(1, "none")
		if e := x.Caching(1, true); e != c.yes {
			t.Error(c.words, "yes:", e)
		}
		x.Read(1, "yes")
		x.Done(1)
		if e := x.Caching(1, false); e != c.no {
			t.Error(c.words, "no:", e)
		}
		x.Read(1, "no")
		x.Caching(1, true)
		x.Read(1, "both")
		if s := strings.Join(x.Rows(), " "); s != c.read {
			t.Errorf("%s: %q", c.words, s)
		}
		for _, id := range []int{0, -1, 2, math.MaxInt} {
			if x.Caching(id, true) != api.ErrClient || x.Caching(id, false) != api.ErrClient {
				t.Error(id)
			}
		}
	}
}

// P16.3: what a client said holds till it is Done, and is its own.
func TestDone(t *testing.T) {
	x := trackOf(t, 10, "on optin", "on optin", "on optout")
	x.Caching(1, true)
	x.Caching(2, true)
	x.Caching(3, false)
	x.Read(1, "a")
	x.Read(1, "b")
	for _, id := range []int{0, -1, 4, noId, 1, 1} {
		x.Done(id)
	}
	x.Read(1, "c")
	x.Read(2, "c")
	x.Read(3, "c")
	if s := rows(x); s != "a:1 b:1 c:2" {
		t.Error(s)
	}
	x.Done(2)
	x.Done(3)
	x.Read(2, "d")
	x.Read(3, "d")
	if s := rows(x); s != "a:1 b:1 c:2 d:3" {
		t.Error(s)
	}
}

// P16.1, P16.2: modes of every kind, one behind the other, held against a plain Track.
func TestFromModeToMode(t *testing.T) {
	words := []string{"off", "on", "on noloop", "on optin", "on optin redirect 2", "on optout", "on optout redirect 1", "on bcast", "on bcast prefix a", "on bcast prefix b noloop", "on redirect 2", "on redirect 3", "on redirect 7"}
	for _, first := range words {
		for _, second := range words {
			for _, third := range []string{first, "off", "on optin"} {
				b := bothOf(t, 3)
				b.join(3, 1, 2)
				for _, w := range []string{first, second, third, second} {
					b.set(1, modeOf(t, w))
					b.caching(1, true)
					b.read(1, "a", "b")
					b.caching(1, false)
					b.read(1, "c")
					b.change(2, event(api.EventSet, "b"))
				}
				b.leave(2)
			}
		}
	}
}
