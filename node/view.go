package node

import (
	"iter"
	"slices"

	"tributary/api"
	"tributary/draw"
)

// view is what a node has made of the blocks that it has taken from the upper
// chain.
type view struct {
	seen   []int // the Ids of these blocks
	chain  *draw.Chain
	log    []api.Lower
	coming []api.Lower // drawn, but not in the log yet
}

func newView(c api.Config) *view { return &view{chain: draw.New(c)} }

// last is the number of the last block taken.
func (v *view) last() int { return len(v.seen) - 1 }

// ancestors gives the last block taken and those ahead of it, back to the
// first one; with each its number and its Id.
func (v *view) ancestors() iter.Seq2[int, int] { return slices.Backward(v.seen) }

// take takes the next upper block, and draws what comes of it.
func (v *view) take(b api.Upper) {
	v.seen = append(v.seen, b.Id)
	v.chain.Take(b)
	v.coming = slices.AppendSeq(v.coming, v.chain.Drawn())
}

// lay lays the first count blocks that have come onto the log.
func (v *view) lay(count int) {
	v.log = append(v.log, v.coming[:count]...)
	v.coming = slices.Delete(v.coming, 0, count)
}

// regains tells whether all that has come so far stands in a log that goes on
// behind it.
func (v *view) regains(log []api.Lower) bool {
	return len(v.coming) == 0 && len(v.log) < len(log)
}

// alike is how many blocks two lists have in common from their beginning on.
func alike(a, b []api.Lower) int {
	most := min(len(a), len(b))
	for i := range most {
		if !same(a[i], b[i]) {
			return i
		}
	}
	return most
}

func same(a, b api.Lower) bool {
	return a.Number == b.Number && a.Time == b.Time &&
		a.Epoch == b.Epoch && a.Id == b.Id && a.Seq == b.Seq && a.At == b.At &&
		slices.Equal(a.Txs, b.Txs) && slices.Equal(a.Deposits, b.Deposits)
}

// clone shares no list with the log.
func clone(log []api.Lower) []api.Lower {
	l := slices.Clone(log)
	for i := range l {
		l[i].Txs = slices.Clone(l[i].Txs)
		l[i].Deposits = slices.Clone(l[i].Deposits)
	}
	return l
}
