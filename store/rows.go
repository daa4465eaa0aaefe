package store

import (
	"nearhand/api"
	"nearhand/expiry"
	"nearhand/item"
	"nearhand/recent"
	"nearhand/table"
)

// row is a key, and what it has.
type row struct {
	key string
	has api.Item
}

// empty: there is nothing, but for the budget and what is still to be told.
func (s *Store) empty() {
	s.entries, s.rows = table.New(), nil
	s.used, s.ends = recent.New(), expiry.New()
	s.bytes = 0
}

// set: a key has that item, of which the store may keep all.
func (s *Store) set(key string, i api.Item) {
	s.bytes += item.Cost(key, i)
	at, there := s.entries.Get(key)
	if there {
		s.bytes -= item.Cost(key, s.rows[at].has)
		s.rows[at].has = i
		return
	}
	s.entries.Put(key, int64(len(s.rows)))
	s.rows = append(s.rows, row{key: key, has: i})
}

// lose: a key's item goes, and that is told; was there one?
func (s *Store) lose(key string, kind int) bool {
	at, there := s.entries.Get(key)
	if !there {
		return false
	}
	s.bytes -= item.Cost(key, s.rows[at].has)
	s.fill(at)
	s.entries.Drop(key)
	s.used.Drop(key)
	s.ends.Drop(key)
	s.tell(kind, key)
	return true
}

// fill: the last row comes to stand where one goes, so that no place is free
// among them.
func (s *Store) fill(at int64) {
	last := len(s.rows) - 1
	s.rows[at] = s.rows[last]
	s.entries.Put(s.rows[at].key, at)
	s.rows[last] = row{} // what has gone isn't kept behind the end
	s.rows = s.rows[:last]
}

// end: a key goes, if it has ended.
func (s *Store) end(key string, now int64) {
	if when, due := s.ends.Get(key); due && now >= when {
		s.lose(key, api.EventExpired)
	}
}

// evict: keys go, but one, until the others have room beside it. By itself it
// has room, so there is another one as long as there is too much.
func (s *Store) evict(but string) {
	for s.bytes > s.budget {
		oldest, _ := s.used.Oldest(but)
		s.lose(oldest, api.EventEvicted)
	}
}

// tell: something happened to a key.
func (s *Store) tell(kind int, key string) {
	s.events = append(s.events, api.Event{Kind: kind, Key: key})
}
