package node

import (
	"fmt"
	"testing"

	"tributary/api"
)

// What may be called; of the two blocks lower ones come, with transactions or
// without.
var calls = []func(w *watched){
	func(w *watched) { w.extend(next(w, "a")) },
	func(w *watched) { w.extend(next(w, "b")) },
	func(w *watched) { w.turn(min(1, len(w.chain)-1)) },
	func(w *watched) { w.turn(min(2, len(w.chain)-1)) },
	func(w *watched) { w.fail(1) },
	func(w *watched) { w.resetNow() },
	func(w *watched) { w.step() },
}

// next is a block with batches for what comes of the epochs that are known.
func next(w *watched, tx string) api.Upper {
	last := w.chain[len(w.chain)-1]
	b := api.Upper{Time: last.Time + 3, Logs: []string{deposit(tx)}}
	e := len(w.chain) - 1
	t := 2*e + 2
	b.Txs = []api.Tx{say(whole(1, batch(max(e-1, 0), w.chain[max(e-1, 0)].Id, t, "x"), batch(e, last.Id, t+2, tx)))}
	return b
}

// Every row of so many calls, on a node that is idle over three blocks.
func TestEveryRowOfCalls(t *testing.T) {
	t.Parallel()
	c := plain
	c.Window = 1
	const length = 5
	rows := 1
	for range length {
		rows *= len(calls)
	}
	met := map[string]int{}
	for row := range rows {
		w := watch(t, c, up(0, 3)...)
		w.extend(next(w, "a"))
		w.what = fmt.Sprint("row ", row)
		w.idle()
		k := row
		for range length {
			calls[k%len(calls)](w)
			k /= len(calls)
		}
		w.fail(0)
		w.idle()
		for what, n := range w.met {
			met[what] += n
		}
	}
	for _, what := range []string{"back by nothing", "back to the first block", "back to the midst", "failed"} {
		if met[what] < 100 {
			t.Errorf("%q is met only %d times", what, met[what])
		}
	}
}
