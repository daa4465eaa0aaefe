package track

import (
	"cmp"
	"maps"
	"slices"

	"nearhand/api"
	"nearhand/mode"
)

// Read: a client has read keys.
func (t *Track) Read(id int, keys ...string) []api.Notice {
	c := t.clients[id]
	if c == nil || !mode.Tracks(c.Mode, c.said) {
		return nil
	}
	var l []api.Notice
	for _, key := range keys {
		// When the key of a row that goes changes, nobody would be told any more: so it is told now.
		first, ids, _ := t.rows.Add(key, id)
		l = append(l, t.tell(api.NoticeKey, first, ids)...)
	}
	return l
}

// Change: what happened.
func (t *Track) Change(by int, events ...api.Event) []api.Notice {
	var l []api.Notice
	for _, e := range events {
		if e.Kind == api.EventFlush {
			l = append(l, t.flush()...)
		} else {
			l = append(l, t.change(by, e)...)
		}
	}
	return l
}

// flush: all keys have gone.
func (t *Track) flush() []api.Notice {
	t.rows.Clear()
	return t.tell(api.NoticeAll, "", t.those(func(c *client) bool { return c.On }))
}

// change: something happened to a key.
func (t *Track) change(by int, e api.Event) []api.Notice {
	told := map[int]struct{}{}
	for _, id := range t.rows.Take(e.Key) {
		told[id] = struct{}{}
	}
	for _, id := range t.prefixes.Match(e.Key) {
		told[id] = struct{}{}
	}
	if t.spares(by, e.Kind) {
		delete(told, by)
	}
	return t.tell(api.NoticeKey, e.Key, slices.Sorted(maps.Keys(told)))
}

// spares: was it a client's own doing, and does it ask not to be told of that? What
// ended, or was evicted, wasn't, though a command of its own may have brought it on.
func (t *Track) spares(by, kind int) bool {
	c := t.clients[by]
	return c != nil && c.NoLoop && (kind == api.EventSet || kind == api.EventGone)
}

// tell: clients are told of a key, each one itself, or by way of the one to which its
// notices are redirected.
func (t *Track) tell(kind int, key string, ids []int) []api.Notice {
	var l []api.Notice
	for _, id := range ids {
		to := cmp.Or(t.clients[id].Redirect, id)
		l = append(l, api.Notice{Kind: kind, To: to, For: id, Key: key})
	}
	return l
}
