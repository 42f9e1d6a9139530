// Package draw: a lower chain drawn out of an upper one, block by block: see
// DOC.md. The upper blocks and the config that it is given must be such as
// may be.
package draw

import (
	"iter"
	"slices"

	"tributary/api"
)

// Chain is a lower chain as far as it is drawn, and what there is to draw on.
type Chain struct {
	config     api.Config
	upper      []block
	channels   channels
	waiting    []batch
	count      int // of the lower blocks drawn
	epoch, seq int // of the last one of them
}

// New is a chain without blocks.
func New(c api.Config) *Chain {
	return &Chain{config: c, channels: channels{named: map[uint32]*channel{}}}
}

// Take takes the next upper block, and reads the channels that are whole
// then.
func (c *Chain) Take(b api.Upper) {
	n := len(c.upper)
	c.upper = append(c.upper, blockOf(b))
	c.channels.expire(n - c.config.Timeout)
	for _, frames := range framesOf(c.config, b.Txs) {
		for _, f := range frames {
			c.channels.take(f, n, c.config.Most)
		}
	}
	for bytes := range c.channels.whole() {
		for b := range eachBatch(bytes) {
			if b.epoch <= n {
				b.place = n
				c.waiting = append(c.waiting, b)
			}
		}
	}
}

// Drawn draws the lower blocks that the upper blocks taken give, one by one.
// Those that nobody asks for come the next time.
func (c *Chain) Drawn() iter.Seq[api.Lower] {
	return func(yield func(api.Lower) bool) {
		for l, ok := c.next(); ok; l, ok = c.next() {
			if !yield(l) {
				return
			}
		}
	}
}

// next draws the next lower block, if there is one.
func (c *Chain) next() (api.Lower, bool) {
	if len(c.upper) == 0 {
		return api.Lower{}, false
	}
	if c.count == 0 {
		return c.draw(0, nil), true
	}
	b, v := c.choose()
	switch {
	case v == drawn:
		return c.draw(b.epoch, b.txs), true
	case v != halts && c.number() > c.epoch+c.config.Window:
		return c.draw(c.epochWithoutBatch(), nil), true
	}
	return api.Lower{}, false
}

// number is that of the last upper block taken.
func (c *Chain) number() int { return len(c.upper) - 1 }

// time is that of the lower block that comes next.
func (c *Chain) time() int { return c.upper[0].time + c.count*c.config.Step }

// draw draws a block of this epoch. The transactions become the block's.
func (c *Chain) draw(epoch int, txs []string) api.Lower {
	if c.count > 0 && epoch == c.epoch {
		c.seq++
	} else {
		c.epoch, c.seq = epoch, 0
	}
	u := c.upper[epoch]
	l := api.Lower{
		Number: c.count, Time: c.time(),
		Epoch: epoch, Id: u.id, Seq: c.seq,
		Txs: txs, At: c.number(),
	}
	if c.seq == 0 {
		l.Deposits = slices.Clone(u.deposits)
	}
	c.count++
	return l
}

// epochWithoutBatch is the epoch of a block that no batch asked for. The next
// epoch is known then: the upper chain is longer by more than the Window.
func (c *Chain) epochWithoutBatch() int {
	if c.upper[c.epoch+1].time <= c.time() {
		return c.epoch + 1
	}
	return c.epoch
}
