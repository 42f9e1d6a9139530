package draw

import (
	"iter"
	"slices"
	"strings"

	"tributary/api"
)

// channels is the channels that there are.
type channels struct {
	named map[uint32]*channel
	// order has them as they were opened. One that has gone may stand there
	// for a while, since looking for it each time would cost too much.
	order []*channel
}

// there tells whether a channel has not gone.
func (s *channels) there(c *channel) bool { return s.named[c.name] == c }

// expire lets those go that were opened ahead of block oldest.
func (s *channels) expire(oldest int) {
	for _, c := range s.order {
		if s.there(c) && c.opened < oldest {
			delete(s.named, c.name)
		}
	}
	s.order = slices.DeleteFunc(s.order, func(c *channel) bool { return !s.there(c) })
}

// take takes a frame of block n; a channel has at most most bytes.
func (s *channels) take(f api.Frame, n, most int) {
	if f.Number == 0 {
		s.open(f.Channel, n)
	}
	c := s.named[f.Channel]
	if c != nil && c.accepts(f) {
		c.join(f, most)
	}
}

// open opens a channel at block n, in place of one of the same name.
func (s *channels) open(name uint32, n int) {
	c := &channel{name: name, opened: n, frames: map[uint16]api.Frame{}}
	s.named[name] = c
	s.order = append(s.order, c)
}

// whole gives the bytes of the first channel, which goes, as long as that
// has all its frames.
func (s *channels) whole() iter.Seq[string] {
	return func(yield func(string) bool) {
		for len(s.order) > 0 {
			c := s.order[0]
			if s.there(c) && !c.whole() {
				return
			}
			s.order = s.order[1:]
			if !s.there(c) {
				continue
			}
			delete(s.named, c.name)
			if !yield(c.bytes()) {
				return
			}
		}
	}
}

// channel is what has come of a channel.
type channel struct {
	name   uint32
	opened int // with which upper block
	frames map[uint16]api.Frame
	size   int // all bytes of its frames
	ended  bool
	last   uint16 // the number of its last frame, if it has ended
	spoilt bool
}

// accepts tells whether a frame may join.
func (c *channel) accepts(f api.Frame) bool {
	if c.spoilt || c.ended && (f.Last || f.Number > c.last) {
		return false
	}
	_, twice := c.frames[f.Number]
	return !twice
}

// join lets a frame join, and spoils the channel if that is too much.
func (c *channel) join(f api.Frame, most int) {
	c.frames[f.Number] = f
	c.size += len(f.Data)
	if f.Last {
		c.end(f.Number)
	}
	if c.size > most {
		c.spoilt = true
		c.frames = nil
	}
}

// end lets the frames behind the last one go.
func (c *channel) end(last uint16) {
	c.ended = true
	c.last = last
	for number, f := range c.frames {
		if number > last {
			c.size -= len(f.Data)
			delete(c.frames, number)
		}
	}
}

// whole tells whether all frames are there. Counting them is enough: none
// stands behind the last one, and a spoilt channel has none.
func (c *channel) whole() bool { return c.ended && len(c.frames) == int(c.last)+1 }

// bytes is what the frames of a whole channel hold, in their order.
func (c *channel) bytes() string {
	var b strings.Builder
	for number := range len(c.frames) {
		b.WriteString(c.frames[uint16(number)].Data)
	}
	return b.String()
}
