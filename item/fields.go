package item

import (
	"slices"
	"strings"

	"nearhand/api"
)

// Get: a field.
func Get(i api.Item, name string) (string, bool, api.Errno) {
	at, there, e := find(i, name)
	if e != api.OK || !there {
		return "", false, e
	}
	return i.Fields[at].Text, true, api.OK
}

// Put: a field has a text.
func Put(i api.Item, name, text string) (api.Item, bool, api.Errno) {
	at, there, e := find(i, name)
	if e != api.OK {
		return Copy(i), false, e
	}
	if !fits(name, text) || !there && len(i.Fields) >= api.MaxFields {
		return Copy(i), false, api.ErrBig
	}
	ahead, behind := i.Fields[:at], i.Fields[at:]
	if there {
		behind = behind[1:]
	}
	return hashItem(ahead, []api.Field{{Name: name, Text: text}}, behind), !there, api.OK
}

// Drop: a field goes.
func Drop(i api.Item, name string) (api.Item, bool, api.Errno) {
	at, there, e := find(i, name)
	if e != api.OK || !there {
		return Copy(i), false, e
	}
	if len(i.Fields) == 1 {
		return api.Item{}, true, api.OK
	}
	return hashItem(i.Fields[:at], i.Fields[at+1:]), true, api.OK
}

// find: where a hash has that field, or would have it, and has it?
func find(i api.Item, name string) (int, bool, api.Errno) {
	if i.Kind != none && i.Kind != api.HashItem {
		return 0, false, api.ErrKind
	}
	at, there := slices.BinarySearchFunc(i.Fields, name, func(f api.Field, name string) int {
		return strings.Compare(f.Name, name)
	})
	return at, there, api.OK
}

// hashItem: an item that has these Fields, part behind part.
func hashItem(parts ...[]api.Field) api.Item {
	return api.Item{Kind: api.HashItem, Fields: slices.Concat(parts...)}
}
