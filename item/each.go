package item

import (
	"iter"
	"strings"

	"tributary/api"
)

// Each gives the items whose codes stand in s, one behind the other, up to
// the first bytes that are none; with each, where in s its code ends.
func Each(s string) iter.Seq2[int, api.Item] { return each(s, 1) }

// each is Each for what stands so deep: a list among it is the deep-th one.
func each(s string, deep int) iter.Seq2[int, api.Item] {
	return func(yield func(int, api.Item) bool) {
		end := 0
		for end < len(s) {
			i, n, ok := first(s[end:], deep)
			if !ok {
				return
			}
			end += n
			if !yield(end, i) {
				return
			}
		}
	}
}

// first is the item with whose code s begins, and how long that code is.
func first(s string, deep int) (api.Item, int, bool) {
	b, ok := firstBody(s)
	if !ok {
		return api.Item{}, 0, false
	}
	text := s[b.from:b.to]
	if !b.list {
		// A clone, since what comes out shares no memory with what came in.
		return api.Item{Bytes: strings.Clone(text)}, b.to, true
	}
	if deep > api.MaxNest {
		return api.Item{}, 0, false
	}
	kids, ok := whole(text, deep+1)
	if !ok {
		return api.Item{}, 0, false
	}
	return api.Item{List: true, Kids: kids}, b.to, true
}

// whole is the items of a list's body, if all of it is codes of items.
func whole(s string, deep int) ([]api.Item, bool) {
	var kids []api.Item
	end := 0
	for at, i := range each(s, deep) {
		kids = append(kids, i)
		end = at
	}
	if end < len(s) {
		return nil, false
	}
	return kids, true
}
