package pattern

import (
	"avouch/api"
	"avouch/item"
)

// longest is how many bytes an item that may be has at most: the eight ahead of its label, and this.
const longest = 8 + api.MaxLabel

// next gives the item for a place, which stands at the beginning of bytes, and how many of these it has.
func next(place int, b []byte) (item.Item, int, api.Errno) {
	if place >= api.MaxItems {
		return item.Item{}, 0, api.ErrMany
	}
	// Decode copies the bytes behind the item: with all of them, each item would take the time of the whole.
	window := b[:min(len(b), longest)]
	x, behind, err := item.Decode(window)
	if err == api.ErrShort {
		// No item that may be is cut off by the window: what all the bytes tell is an error, too.
		_, _, err = item.Decode(b)
	}
	return x, len(window) - len(behind), err
}

// encode gives the bytes of the item for a place.
func encode(place int, x item.Item) ([]byte, api.Errno) {
	if place >= api.MaxItems {
		return nil, api.ErrMany
	}
	return item.Encode(x)
}

// counted gives what a count adds to a sum: a count that may not be adds nothing.
func counted(count int) int {
	if count < 0 || count > api.MaxCount {
		return 0
	}
	return count
}
