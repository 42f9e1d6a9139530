package item

import (
	"strings"

	"tributary/api"
)

// Code is the code of an item, if it has one.
func Code(i api.Item) (string, bool) {
	n, ok := size(i, 1)
	if !ok {
		return "", false
	}
	var b strings.Builder
	b.Grow(int(n))
	write(&b, i)
	return b.String(), true
}

// size is how long the code of an item is. Depth and length are bounded here,
// ahead of any writing, so that a list that stands in itself, or one that
// holds the same list over and over, is told without being written out.
func size(i api.Item, deep int) (uint64, bool) {
	if !i.List {
		return stringSize(i)
	}
	if i.Bytes != "" || deep > api.MaxNest {
		return 0, false
	}
	n, ok := sizeTogether(i.Kids, deep+1)
	if !ok {
		return 0, false
	}
	return headSize(n) + n, true
}

// stringSize is size for an item that is a string.
func stringSize(i api.Item) (uint64, bool) {
	n := uint64(len(i.Bytes))
	if len(i.Kids) > 0 || n > long {
		return 0, false
	}
	if isBare(i.Bytes) {
		return 1, true
	}
	return headSize(n) + n, true
}

// sizeTogether is how long the codes of the items of a list are together.
func sizeTogether(kids []api.Item, deep int) (uint64, bool) {
	sum := uint64(0)
	for _, kid := range kids {
		n, ok := size(kid, deep)
		if !ok || sum+n > long {
			return 0, false
		}
		sum += n
	}
	return sum, true
}

// isBare tells whether a string is its own code.
func isBare(s string) bool { return len(s) == 1 && s[0] < bare }

// write writes the code of an item that has one.
func write(b *strings.Builder, i api.Item) {
	switch {
	case i.List:
		n, _ := sizeTogether(i.Kids, 1)
		headOf(true).write(b, n)
		for _, kid := range i.Kids {
			write(b, kid)
		}
	case isBare(i.Bytes):
		b.WriteString(i.Bytes)
	default:
		headOf(false).write(b, uint64(len(i.Bytes)))
		b.WriteString(i.Bytes)
	}
}
