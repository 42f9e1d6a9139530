// Package code: codes for bytes: see DOC.md.
package code

import (
	"tributary/api"
	"tributary/item"
)

// Encode is an item's code (P3).
func Encode(i api.Item) (string, api.Errno) {
	s, ok := item.Code(i)
	if !ok {
		return "", api.ErrBytes
	}
	return s, api.OK
}

// Decode is the item of a code (P3).
func Decode(s string) (api.Item, api.Errno) {
	for end, i := range item.Each(s) {
		if end < len(s) {
			break // with bytes behind its first code, s is no code
		}
		return i, api.OK
	}
	return api.Item{}, api.ErrBytes
}
