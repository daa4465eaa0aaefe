package item

import (
	"math"

	"nearhand/api"
	"nearhand/real"
	"nearhand/whole"
)

// Add: a number more.
func Add(i api.Item, n int64) (api.Item, int64, api.Errno) {
	sum, e := wholeSum(i, n)
	if e != api.OK {
		return Copy(i), 0, e
	}
	return textItem(whole.Text(sum)), sum, api.OK
}

// wholeSum: a text's number and another one together.
func wholeSum(i api.Item, n int64) (int64, api.Errno) {
	text, e := textOf(i, "0")
	if e != api.OK {
		return 0, e
	}
	old, e := whole.Parse(text)
	if e != api.OK {
		return 0, api.ErrNotWhole
	}
	return whole.Add(old, n)
}

// AddReal: a number with a point more.
func AddReal(i api.Item, f float64) (api.Item, string, api.Errno) {
	sum, e := realSum(i, f)
	if e != api.OK {
		return Copy(i), "", e
	}
	text := real.Text(sum)
	return textItem(text), text, api.OK
}

// realSum: a text's number with a point and another one together.
func realSum(i api.Item, f float64) (float64, api.Errno) {
	text, e := textOf(i, "0")
	if e != api.OK {
		return 0, e
	}
	old, e := real.Parse(text)
	if e != api.OK || math.IsInf(old, 0) || math.IsNaN(old) {
		return 0, api.ErrNotReal
	}
	// A sum with what is infinite, or nan, is so itself: an f that is has its
	// ErrReal of that.
	return real.Add(old, f)
}

// Append: a text more.
func Append(i api.Item, s string) (api.Item, api.Errno) {
	text, e := textOf(i, "")
	if e != api.OK {
		return Copy(i), e
	}
	if len(text)+len(s) > api.MaxText {
		return Copy(i), api.ErrBig
	}
	return textItem(text + s), api.OK
}

// textOf: the Text of a TextItem; of none the one that stands for it.
func textOf(i api.Item, ofNone string) (string, api.Errno) {
	switch i.Kind {
	case none:
		return ofNone, api.OK
	case api.TextItem:
		return i.Text, api.OK
	}
	return "", api.ErrKind
}

// textItem: an item that has that Text.
func textItem(s string) api.Item { return api.Item{Kind: api.TextItem, Text: s} }
