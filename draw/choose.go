package draw

// verdict is what becomes of a batch that waits.
type verdict uint8

const (
	stays verdict = iota
	goes
	halts // it stays, and nothing is drawn now
	drawn
)

// choose goes through the batches that wait, up to the first one that is
// drawn or halts. What it tells is the verdict on that one; stays, if there is
// none such.
func (c *Chain) choose() (batch, verdict) {
	kept := c.waiting[:0]
	for i, b := range c.waiting {
		switch v := c.judge(b); v {
		case stays:
			kept = append(kept, b)
		case halts:
			c.waiting = append(kept, c.waiting[i:]...)
			return batch{}, halts
		case drawn:
			c.waiting = append(kept, c.waiting[i+1:]...)
			return b, drawn
		}
	}
	c.waiting = kept
	return batch{}, stays
}

// judge is the verdict on a batch.
func (c *Chain) judge(b batch) verdict {
	t := c.time()
	if b.time > t {
		return stays
	}
	if b.time < t || b.epoch != c.epoch && b.epoch != c.epoch+1 || b.place > b.epoch+c.config.Window {
		return goes
	}
	if c.mustWait(b, t) {
		return halts
	}
	u := c.upper[b.epoch]
	if b.id != u.id || t < u.time || c.late(b.epoch, t) && !c.allowedLate(b, t) {
		return goes
	}
	return drawn
}

// mustWait tells whether only the next upper block will show what becomes of
// a batch.
func (c *Chain) mustWait(b batch, t int) bool {
	if c.epoch+1 <= c.number() {
		return false
	}
	return b.epoch == c.epoch+1 || len(b.txs) == 0 && c.late(c.epoch, t)
}

// late tells whether a time is behind an epoch's by more than the Drift.
func (c *Chain) late(epoch, t int) bool { return t > c.upper[epoch].time+c.config.Drift }

// allowedLate tells whether a batch may be drawn although it is late: it has
// no transactions, and does not hold an epoch back that could begin. (The
// next epoch is known here, or the batch would wait.)
func (c *Chain) allowedLate(b batch, t int) bool {
	return len(b.txs) == 0 && (b.epoch != c.epoch || c.upper[c.epoch+1].time > t)
}
