// Package frame: the frames of a transaction, gone through one by one: see
// DOC.md. It stands beside package derive because what draws a lower chain
// needs them as well.
package frame

import (
	"iter"
	"strings"

	"tributary/api"
)

const (
	opening  = 0         // the byte ahead of all frames
	headSize = 4 + 2 + 2 // channel, number and length of a frame
	lastSize = 1         // whether it is its channel's last one
)

// All is the frames of the Data of a transaction, if they are frames and
// nothing else.
func All(data string) ([]api.Frame, bool) {
	if data == "" || data[0] != opening {
		return nil, false
	}
	rest := data[1:]
	var frames []api.Frame
	end := 0
	for at, f := range Each(rest) {
		frames = append(frames, f)
		end = at
	}
	if len(frames) == 0 || end < len(rest) {
		return nil, false
	}
	return frames, true
}

// Each gives the frames that stand in s, one behind the other, up to the
// first bytes that are none; with each, where in s it ends.
func Each(s string) iter.Seq2[int, api.Frame] {
	return func(yield func(int, api.Frame) bool) {
		end := 0
		for {
			f, n, ok := first(s[end:])
			if !ok {
				return
			}
			end += n
			if !yield(end, f) {
				return
			}
		}
	}
}

// first is the frame with which s begins, and how long it is.
func first(s string) (api.Frame, int, bool) {
	if len(s) < headSize {
		return api.Frame{}, 0, false
	}
	size := headSize + int(number(s[6:headSize])) + lastSize
	if len(s) < size || s[size-1] > 1 {
		return api.Frame{}, 0, false
	}
	return api.Frame{
		Channel: number(s[:4]),
		Number:  uint16(number(s[4:6])),
		// A clone, since what comes out shares no memory with what came in.
		Data: strings.Clone(s[headSize : size-lastSize]),
		Last: s[size-1] == 1,
	}, size, true
}

// number is the number of at most four bytes, highest first.
func number(s string) uint32 {
	n := uint32(0)
	for _, c := range []byte(s) {
		n = n<<8 | uint32(c)
	}
	return n
}
