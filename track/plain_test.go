package track

import (
	"slices"
	"strconv"
	"strings"
	"testing"

	"nearhand/api"
	"nearhand/mode"
)

// plain is a Track another way: lists that are gone through each time.
type plain struct {
	most    int
	clients []plainClient // rising
	rows    []plainRow    // in the order in which their keys came
}

type plainClient struct {
	id, said int
	mode     api.Mode
}

type plainRow struct {
	key string
	ids []int // rising
}

func (p *plain) at(id int) int {
	return slices.IndexFunc(p.clients, func(c plainClient) bool { return c.id == id })
}

func (p *plain) row(key string) int {
	return slices.IndexFunc(p.rows, func(r plainRow) bool { return r.key == key })
}

func (p *plain) join(id int) bool {
	if id < 1 || p.at(id) >= 0 {
		return false
	}
	p.clients = append(p.clients, plainClient{id: id})
	slices.SortFunc(p.clients, func(a, b plainClient) int { return a.id - b.id })
	return true
}

// part: a client leaves all rows, and those without one go.
func (p *plain) part(id int) {
	var left []plainRow
	for _, r := range p.rows {
		r.ids = slices.DeleteFunc(slices.Clone(r.ids), func(other int) bool { return other == id })
		if len(r.ids) > 0 {
			left = append(left, r)
		}
	}
	p.rows = left
}

func (p *plain) leave(id int) []api.Notice {
	n := p.at(id)
	if n < 0 {
		return nil
	}
	p.clients = slices.Delete(p.clients, n, n+1)
	p.part(id)
	var l []api.Notice
	for i, c := range p.clients {
		if c.mode.Redirect == id {
			p.clients[i].mode.Redirect = 0
			l = append(l, api.Notice{Kind: api.NoticeBroken, To: c.id, For: c.id})
		}
	}
	return l
}

func (p *plain) mode(id int) (api.Mode, bool) {
	if n := p.at(id); n >= 0 {
		return p.clients[n].mode, true
	}
	return api.Mode{}, false
}

func (p *plain) set(id int, m api.Mode) api.Errno {
	n := p.at(id)
	if n < 0 {
		return api.ErrClient
	}
	if !mode.Right(m) {
		return api.ErrModes
	}
	if m.Redirect != 0 && p.at(m.Redirect) < 0 {
		return api.ErrClient
	}
	if m.Redirect == id {
		return api.ErrClient
	}
	now, e := mode.Switch(p.clients[n].mode, m)
	if e != api.OK {
		return e
	}
	p.clients[n].mode = now
	if !now.On {
		p.part(id)
		p.clients[n].said = api.CachingNone
	}
	return api.OK
}

func (p *plain) caching(id int, yes bool) api.Errno {
	n := p.at(id)
	if n < 0 {
		return api.ErrClient
	}
	e := mode.Caching(p.clients[n].mode, yes)
	if e == api.OK && yes {
		p.clients[n].said = api.CachingYes
	} else if e == api.OK {
		p.clients[n].said = api.CachingNo
	}
	return e
}

func (p *plain) done(id int) {
	if n := p.at(id); n >= 0 {
		p.clients[n].said = api.CachingNone
	}
}

func (p *plain) told(kind, id int, key string) api.Notice {
	to := p.clients[p.at(id)].mode.Redirect
	if to == 0 {
		to = id
	}
	return api.Notice{Kind: kind, To: to, For: id, Key: key}
}

func (p *plain) read(id int, keys []string) []api.Notice {
	n := p.at(id)
	if n < 0 || !mode.Tracks(p.clients[n].mode, p.clients[n].said) {
		return nil
	}
	var l []api.Notice
	for _, key := range keys {
		if p.row(key) < 0 {
			if len(p.rows) == p.most {
				for _, other := range p.rows[0].ids {
					l = append(l, p.told(api.NoticeKey, other, p.rows[0].key))
				}
				p.rows = p.rows[1:]
			}
			p.rows = append(p.rows, plainRow{key: key})
		}
		r := &p.rows[p.row(key)]
		if !slices.Contains(r.ids, id) {
			r.ids = append(r.ids, id)
			slices.Sort(r.ids)
		}
	}
	return l
}

// flush is an EventFlush.
func (p *plain) flush() []api.Notice {
	var l []api.Notice
	for _, c := range p.clients {
		if c.mode.On {
			l = append(l, p.told(api.NoticeAll, c.id, ""))
		}
	}
	p.rows = nil
	return l
}

// event is any other event.
func (p *plain) event(by int, e api.Event) []api.Notice {
	var l []api.Notice
	n := p.row(e.Key)
	for _, c := range p.clients {
		told := n >= 0 && slices.Contains(p.rows[n].ids, c.id)
		for _, prefix := range c.mode.Prefixes {
			told = told || strings.HasPrefix(e.Key, prefix)
		}
		own := c.id == by && c.mode.NoLoop && (e.Kind == api.EventSet || e.Kind == api.EventGone)
		if told && !own {
			l = append(l, p.told(api.NoticeKey, c.id, e.Key))
		}
	}
	if n >= 0 {
		p.rows = slices.Delete(slices.Clone(p.rows), n, n+1)
	}
	return l
}

func (p *plain) change(by int, events []api.Event) []api.Notice {
	var l []api.Notice
	for _, e := range events {
		if e.Kind == api.EventFlush {
			l = append(l, p.flush()...)
		} else {
			l = append(l, p.event(by, e)...)
		}
	}
	return l
}

// said is notices as words: what kind (? k * x), for whom, to whom, and the key.
func said(l []api.Notice) string {
	var words []string
	for _, n := range l {
		kind := "strange"
		if 0 <= n.Kind && n.Kind < 4 {
			kind = "?k*x"[n.Kind : n.Kind+1]
		}
		words = append(words, kind+strconv.Itoa(n.For)+">"+strconv.Itoa(n.To)+n.Key)
	}
	return strings.Join(words, " ")
}

// brief is the beginning of a text, to be told of at a fault.
func brief(s string) string {
	s = strconv.Quote(s)
	return s[:min(len(s), 200)]
}

// digits are numbers as one text.
func digits(ids []int) string {
	var l []string
	for _, id := range ids {
		l = append(l, strconv.Itoa(id))
	}
	return strings.Join(l, ",")
}

// both have a call done by a Track and by plain, hold the answers against each
// other, and then all that can be asked.
type both struct {
	t *testing.T
	x *Track
	p *plain
}

// bothOf are without clients, with that bound.
func bothOf(t *testing.T, most int) both {
	b := both{t, New(most), &plain{most: max(most, 1)}}
	b.hold()
	return b
}

// noId is a number that no test has join.
const noId = 987654321

func (b both) hold() {
	b.t.Helper()
	var ids []int
	for _, c := range b.p.clients {
		ids = append(ids, c.id)
	}
	if l := b.x.Clients(); !slices.Equal(l, ids) {
		b.t.Fatalf("Clients: %v, not %v", l, ids)
	}
	for _, id := range append(ids, noId, 0, -1) {
		m, there := b.p.mode(id)
		if got, ok := b.x.Mode(id); ok != there || !mode.Same(got, m) {
			b.t.Fatalf("Mode of %d: %+v, %t, not %+v, %t", id, got, ok, m, there)
		}
		if l := b.x.Of(id); !slices.Equal(l, m.Prefixes) {
			b.t.Fatalf("Of %d: %q, not %q", id, l, m.Prefixes)
		}
	}
	var rows []string
	for _, r := range b.p.rows {
		rows = append(rows, r.key)
		if l := b.x.Ids(r.key); !slices.Equal(l, r.ids) {
			b.t.Fatalf("Ids of %s: %v, not %v", brief(r.key), l, r.ids)
		}
	}
	if l := b.x.Rows(); !slices.Equal(l, rows) || b.x.Len() != len(rows) {
		b.t.Fatalf("Rows: %s, %d, not %s", brief(strings.Join(l, " ")), b.x.Len(), brief(strings.Join(rows, " ")))
	}
}

func (b both) join(ids ...int) {
	b.t.Helper()
	for _, id := range ids {
		if got, want := b.x.Join(id), b.p.join(id); got != want {
			b.t.Fatalf("Join of %d: %t", id, got)
		}
	}
	b.hold()
}

// notices holds those that were answered against those that should have been.
func (b both) notices(what string, got, want []api.Notice) {
	b.t.Helper()
	if !slices.Equal(got, want) {
		b.t.Fatalf("%s: %s, not %s", what, brief(said(got)), brief(said(want)))
	}
	b.hold()
}

// errno holds the error that was answered against that which should have been.
func (b both) errno(what string, got, want api.Errno) {
	b.t.Helper()
	if got != want {
		b.t.Fatalf("%s: %d, not %d", what, got, want)
	}
	b.hold()
}

func (b both) leave(id int) {
	b.t.Helper()
	b.notices("Leave of "+strconv.Itoa(id), b.x.Leave(id), b.p.leave(id))
}

func (b both) set(id int, m api.Mode) {
	b.t.Helper()
	b.errno("Set of "+strconv.Itoa(id), b.x.Set(id, m), b.p.set(id, m))
}

func (b both) caching(id int, yes bool) {
	b.t.Helper()
	b.errno("Caching of "+strconv.Itoa(id), b.x.Caching(id, yes), b.p.caching(id, yes))
}

func (b both) done(id int) {
	b.t.Helper()
	b.x.Done(id)
	b.p.done(id)
	b.hold()
}

func (b both) read(id int, keys ...string) {
	b.t.Helper()
	b.notices("Read of "+strconv.Itoa(id)+" "+brief(strings.Join(keys, " ")), b.x.Read(id, keys...), b.p.read(id, keys))
}

func (b both) change(by int, events ...api.Event) {
	b.t.Helper()
	b.notices("Change by "+strconv.Itoa(by), b.x.Change(by, events...), b.p.change(by, events))
}
