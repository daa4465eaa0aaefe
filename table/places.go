package table

// What a place may be.
const (
	empty = iota
	full
	grave // its entry went: keys that came when it stood there are looked for past it
)

// place is where an entry may stand.
type place struct {
	is  int
	key string
	n   int64
}

// places are those of one room. Among them is always an empty one, so each
// search ends; or there are none at all.
type places struct {
	list            []place
	entries, graves int
}

// ofRoom: places, all of them empty.
func ofRoom(room int) places { return places{list: make([]place, room)} }

// room: how many.
func (p *places) room() int { return len(p.list) }

// crowded: are half of them, or more, of entries and graves?
func (p *places) crowded() bool { return p.entries+p.graves >= p.room()/2 }

// first: the place at which a key is looked for first.
func (p *places) first(hash uint64) int { return int(hash % uint64(p.room())) }

// behind: the place at which it is looked for next.
func (p *places) behind(i int) int { return (i + 1) % p.room() }

// find: the place at which a key stands, and whether there is one.
func (p *places) find(key string, hash uint64) (int, bool) {
	if p.room() == 0 {
		return 0, false
	}
	i := p.first(hash)
	for p.list[i].is != empty {
		if p.list[i].is == full && p.list[i].key == key {
			return i, true
		}
		i = p.behind(i)
	}
	return 0, false
}

// add: a key comes that isn't there.
func (p *places) add(key string, hash uint64, n int64) {
	i := p.first(hash)
	for p.list[i].is == full {
		i = p.behind(i)
	}
	if p.list[i].is == grave {
		p.graves--
	}
	p.list[i] = place{is: full, key: key, n: n}
	p.entries++
}

// bury: an entry goes out of its place.
func (p *places) bury(i int) place {
	gone := p.list[i]
	p.list[i] = place{is: grave}
	p.entries--
	p.graves++
	return gone
}
