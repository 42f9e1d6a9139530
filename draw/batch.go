package draw

import (
	"iter"

	"tributary/api"
	"tributary/code"
	"tributary/item"
)

const (
	version   = 0 // the byte ahead of a batch
	numberMax = 1<<62 - 1
	wide      = 8 // a number has at most so many bytes
)

// batch is what somebody wants a lower block to be.
type batch struct {
	epoch, id, time int
	txs             []string
	place           int // the upper block with which it was read
}

// eachBatch gives the batches that the bytes of a channel hold, up to the
// first bytes that are none.
func eachBatch(bytes string) iter.Seq[batch] {
	return func(yield func(batch) bool) {
		text, _ := code.Spread(bytes, api.MaxSpread)
		for _, i := range item.Each(text) {
			b, ok := batchOf(i)
			if !ok || !yield(b) {
				return
			}
		}
	}
}

// batchOf is the batch that an item is, if it is one.
func batchOf(i api.Item) (batch, bool) {
	if i.Bytes == "" || i.Bytes[0] != version {
		return batch{}, false
	}
	l, e := code.Decode(i.Bytes[1:])
	if e != api.OK || len(l.Kids) != 4 {
		return batch{}, false
	}
	epoch, isEpoch := numberOf(l.Kids[0])
	id, isId := numberOf(l.Kids[1])
	time, isTime := numberOf(l.Kids[2])
	txs, areTxs := stringsOf(l.Kids[3])
	if !isEpoch || !isId || !isTime || !areTxs {
		return batch{}, false
	}
	return batch{epoch: epoch, id: id, time: time, txs: txs}, true
}

// numberOf is the number that an item is, if it is one.
func numberOf(i api.Item) (int, bool) {
	s := i.Bytes
	if i.List || len(s) > wide || s != "" && s[0] == 0 {
		return 0, false
	}
	n := uint64(0)
	for _, c := range []byte(s) {
		n = n<<8 | uint64(c)
	}
	if n > numberMax {
		return 0, false
	}
	return int(n), true
}

// stringsOf is the strings of a list, if it is one of strings alone.
func stringsOf(i api.Item) ([]string, bool) {
	if !i.List {
		return nil, false
	}
	var l []string
	for _, kid := range i.Kids {
		if kid.List {
			return nil, false
		}
		l = append(l, kid.Bytes)
	}
	return l, true
}
