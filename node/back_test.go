package node

import (
	"reflect"
	"testing"

	"tributary/api"
)

// Nine blocks of which, by the Window of 2 alone, lower blocks come.
var nine = up(0, 3, 6, 9, 12, 15, 18, 21, 24)

func TestGoingOnBlockByBlock(t *testing.T) {
	w := watch(t, plain, nine...)
	for n := 1; n < len(nine); n++ {
		w.steps(api.Going)
		if want := w.gives(w.chain[:n+1]); !reflect.DeepEqual(w.log, want) {
			t.Errorf("P8: with block %d the log is %s, want %s", n, told(w.log), told(want))
		}
	}
	w.steps(api.Idle, api.Idle)
}

func TestTurnOfBlocksThatWereDrawnFrom(t *testing.T) {
	for depth := 1; depth < len(nine); depth++ {
		w := watch(t, plain, nine...)
		w.idle()
		w.turn(depth)
		w.steps(api.Back)
		if want := w.gives(w.chain); !reflect.DeepEqual(w.log, want) {
			t.Errorf("P8: back by %d blocks to %s, want %s", depth, told(w.log), told(want))
		}
		w.steps(api.Idle, api.Idle)
	}
}

func TestTurnOfBlocksThatWereNotSeen(t *testing.T) {
	for seen := range 5 {
		w := watch(t, plain, nine...)
		for range seen {
			w.steps(api.Going)
		}
		w.turn(len(nine) - 1 - seen)
		w.steps(api.Idle)
		w.extend(api.Upper{Time: w.chain[seen].Time + 5})
		w.extend(api.Upper{Time: w.chain[seen].Time + 6})
		w.turn(1)
		w.extend(api.Upper{Time: w.chain[seen].Time + 9})
		w.steps(api.Going, api.Going, api.Idle)
	}
}

// The chain turns and grows between two Steps, so that by its length alone
// nobody would know.
func TestTurnAndGrowth(t *testing.T) {
	for depth := 1; depth < len(nine); depth++ {
		for grown := 1; grown < depth+4; grown++ {
			w := watch(t, plain, nine...)
			w.idle()
			before := w.log
			w.turn(depth)
			for range grown {
				w.extend(api.Upper{Time: w.chain[len(w.chain)-1].Time + 4, Logs: []string{deposit("new")}})
			}
			w.steps(api.Back)
			if kept := len(w.gives(w.chain[:len(nine)-depth])); len(w.log) < kept || len(w.log) >= len(before) && depth > 2 {
				t.Errorf("P8: back by %d blocks from %s to %s", depth, told(before), told(w.log))
			}
			w.idle()
		}
	}
}

// A block that has gone and another one of the same content are two.
func TestTurnAndGrowthByTheSameBlocks(t *testing.T) {
	w := watch(t, plain, nine...)
	w.idle()
	w.turn(6)
	for _, b := range nine[3:] {
		w.extend(b)
	}
	w.steps(api.Back)
	w.idle()
	for _, l := range w.log {
		if want := w.chain[l.Epoch].Id; l.Id != want || l.Epoch > 2 && l.Id != l.Epoch+7 {
			t.Errorf("P9: %+v, want the Id %d", l, want)
		}
	}
}

// What was drawn with a block that is gone may be what the chain gives now:
// then it stays in the log.
func TestBackByNothing(t *testing.T) {
	w := watch(t, plain, nine...)
	w.idle()
	before := w.log
	w.turn(1)
	w.extend(api.Upper{Time: 30})
	w.steps(api.Back)
	if !reflect.DeepEqual(w.log, before) || w.log[len(w.log)-1].At != 8 {
		t.Errorf("P8: back from %s to %s", told(before), told(w.log))
	}
	w.idle()
}

// Of two batches that were drawn with one block the chain gives one now.
func TestBackIntoTheMidstOfABlock(t *testing.T) {
	w := watch(t, plain, at(0), at(3), at(6, say(whole(1, batch(0, 1, 2, "a"), batch(1, 2, 4, "b"), batch(1, 2, 6, "c")))))
	w.idle()
	w.turn(1)
	w.extend(at(6, say(whole(1, batch(0, 1, 2, "a"), batch(1, 2, 4, "B"), batch(1, 2, 6, "c")))))
	w.steps(api.Back)
	if len(w.log) != 2 || w.log[1].Txs[0] != "a" {
		t.Errorf("P8: back to %s", told(w.log))
	}
	w.steps(api.Going)
	if len(w.log) != 4 || w.log[2].Txs[0] != "B" {
		t.Errorf("P9: %s", told(w.log))
	}
	w.idle()
}

func TestTurnWhileTheNodeGoesBack(t *testing.T) {
	w := watch(t, plain, nine...)
	w.idle()
	w.turn(3)
	w.steps(api.Back)
	w.turn(2)
	w.steps(api.Back)
	w.turn(1)
	w.extend(api.Upper{Time: 10})
	w.steps(api.Back)
	w.turn(1)
	w.extend(api.Upper{Time: 11})
	w.extend(api.Upper{Time: 12})
	w.idle()
}

// Behind a Back there may be blocks that are drawn, but not in the log yet;
// those must not come into it if the chain turns again.
func TestTurnOfWhatHasComeBehindABack(t *testing.T) {
	w := watch(t, plain, nine...)
	w.idle()
	w.turn(7)
	for n := range 7 {
		w.extend(at(4+n, say(whole(1, batch(0, 1, 2, "other")))))
	}
	w.steps(api.Back)
	if len(w.log) != 1 {
		t.Fatalf("P8: back to %s", told(w.log))
	}
	w.turn(7)
	w.steps(api.Back, api.Idle)
	if len(w.log) != 1 {
		t.Errorf("P9: %s", told(w.log))
	}
}

// A node that goes back sees no more of the upper chain than it must: a Turn
// of the blocks behind that is none that it finds.
func TestTurnBehindABackOfBlocksThatWereNotSeen(t *testing.T) {
	w := watch(t, plain, at(0), at(3), at(6, say(whole(1, batch(0, 1, 2, "a")))), at(9))
	w.idle()
	w.turn(2)
	w.extend(at(6, say(whole(1, batch(0, 1, 2, "b")))))
	w.extend(at(9))
	w.steps(api.Back)
	w.turn(1)
	w.steps(api.Going, api.Idle)

	w.extend(at(7))
	w.resetNow()
	w.steps(api.Back)
	w.turn(1)
	w.steps(api.Idle)
}

func TestTurnWhileTheChainDoesNotAnswer(t *testing.T) {
	w := watch(t, plain, nine...)
	w.idle()
	w.fail(3)
	w.steps(api.Failed)
	w.turn(4)
	w.steps(api.Failed)
	w.extend(api.Upper{Time: 13})
	w.steps(api.Failed, api.Back)
	w.idle()
	w.turn(2)
	w.fail(1)
	w.steps(api.Failed, api.Back, api.Idle)
}

// The chain turns and comes to be as long as it was while it does not answer;
// then it grows on.
func TestGrowthWhileTheChainDoesNotAnswer(t *testing.T) {
	w := watch(t, plain, up(0)...)
	w.fail(20)
	for n := 1; n < 12; n++ {
		w.extend(api.Upper{Time: 3 * n})
		w.steps(api.Failed)
	}
	w.fail(0)
	w.steps(api.Going)
	w.idle()
}

func TestReset(t *testing.T) {
	for _, times := range []int{1, 2} {
		w := watch(t, plain, nine...)
		for range times {
			w.resetNow()
		}
		w.steps(api.Back, api.Going, api.Going, api.Going)
		for range times {
			w.resetNow()
		}
		before := w.log
		w.steps(api.Back)
		if !reflect.DeepEqual(w.log, before) {
			t.Errorf("P8: Reset: back from %s to %s", told(before), told(w.log))
		}
		w.steps(api.Going)
		w.idle()
		for range times {
			w.resetNow()
		}
		w.steps(api.Back, api.Idle)
	}
}

func TestResetWhileTheChainDoesNotAnswer(t *testing.T) {
	w := watch(t, plain, nine...)
	w.idle()
	w.resetNow()
	w.fail(2)
	w.steps(api.Failed)
	w.resetNow()
	w.steps(api.Failed, api.Back, api.Idle)
	w.fail(1)
	w.resetNow()
	w.turn(3)
	w.extend(api.Upper{Time: 16})
	w.steps(api.Failed, api.Back)
	w.idle()
}

// goesBack checks a chain whose blocks from cut on are gone through twice: the
// node follows it, they are turned off, and come again. What is drawn of them
// hangs on what began ahead of them.
func goesBack(t *testing.T, c api.Config, cut int, blocks ...api.Upper) *watched {
	t.Helper()
	w := watch(t, c, blocks...)
	w.idle()
	first := w.log
	w.turn(len(blocks) - cut)
	w.steps(api.Back)
	w.steps(api.Idle)
	for _, b := range blocks[cut:] {
		w.extend(b)
		w.steps(api.Going)
	}
	w.idle()
	if len(w.log) != len(first) {
		t.Errorf("P9: %s became %s", told(first), told(w.log))
	}
	return w
}

func TestChannelsThatBeganAheadOfThePlace(t *testing.T) {
	a, b := halves(7, batch(0, 1, 2, "a"), batch(1, 2, 4, "b"))
	w := goesBack(t, plain, 2, at(0), at(3, say(a)), at(6, say(b)))
	if len(w.log) != 3 || w.log[2].Txs[0] != "b" {
		t.Errorf("P9: %s", told(w.log))
	}
}

func TestBatchesThatWaitedAheadOfThePlace(t *testing.T) {
	early := whole(1, batch(0, 1, 10, "waits"))
	rest := whole(2, batch(0, 1, 2), batch(0, 1, 4), batch(0, 1, 6), batch(0, 1, 8))
	w := goesBack(t, plain, 2, at(0), at(11, say(early)), at(12, say(rest)))
	if len(w.log) != 6 || w.log[5].Txs[0] != "waits" {
		t.Errorf("P9: %s", told(w.log))
	}
}

// A batch may wait for longer than the Timeout.
func TestBatchesThatWaitedForLong(t *testing.T) {
	c := plain
	c.Timeout, c.Window, c.Drift = 1, 8, 20
	blocks := up(0, 1, 2, 3, 4, 5, 6, 7, 8)
	blocks[1].Txs = []api.Tx{say(whole(1, batch(1, 2, 8, "waits")))}
	blocks[8].Txs = []api.Tx{say(whole(2, batch(0, 1, 2), batch(1, 2, 4), batch(1, 2, 6)))}
	// The batches name the block 1, so that stays.
	for cut := 2; cut < len(blocks); cut++ {
		w := goesBack(t, c, cut, blocks...)
		if len(w.log) != 5 || w.log[4].Txs[0] != "waits" {
			t.Errorf("P9: %s", told(w.log))
		}
	}
}

// A channel waits behind one that is never whole, and is read when that is
// timed out, with the block of then as its place, which may be too late.
func TestChannelsThatWaitedAheadOfThePlace(t *testing.T) {
	never, _ := halves(1, batch(0, 1, 2, "never"))
	waits := whole(2, batch(1, 2, 6, "waited"))
	blocks := []api.Upper{at(0), at(3, say(never)), at(4), at(5, say(waits)), at(6), at(7)}
	for window, drawn := range map[int]int{3: 0, 4: 1} {
		c := plain
		c.Timeout, c.Window = 3, window
		for cut := 2; cut < len(blocks); cut++ {
			w := goesBack(t, c, cut, blocks...)
			if len(w.log) < 4 || len(w.log[3].Txs) != drawn {
				t.Errorf("P9: with the Window %d: %s", window, told(w.log))
			}
		}
	}
}

// A channel that was spoilt ahead of the place is so behind it too, until it
// is opened again.
func TestSpoiltChannelsAheadOfThePlace(t *testing.T) {
	c := plain
	c.Most, c.Window = 40, 8
	a, b := halves(7, batch(0, 1, 2, "a"))
	spoil := api.Frame{Channel: 7, Number: 5, Data: "more than forty bytes in all, so that it is spoilt"}
	blocks := []api.Upper{at(0), at(3, say(a)), at(4, say(spoil)), at(5, say(b)), at(6, say(a)), at(7, say(b))}
	for cut := 1; cut < len(blocks); cut++ {
		w := goesBack(t, c, cut, blocks...)
		if len(w.log) != 2 || w.log[1].At != 5 {
			t.Errorf("P9: %s", told(w.log))
		}
	}
}

func TestBlocksThatAreAlike(t *testing.T) {
	block := func() api.Lower {
		return api.Lower{Number: 1, Time: 2, Epoch: 3, Id: 4, Seq: 5, Txs: []string{"a"}, Deposits: []string{"b"}, At: 6}
	}
	changes := []func(*api.Lower){
		func(l *api.Lower) { l.Number++ }, func(l *api.Lower) { l.Time++ }, func(l *api.Lower) { l.Epoch++ },
		func(l *api.Lower) { l.Id++ }, func(l *api.Lower) { l.Seq++ }, func(l *api.Lower) { l.At++ },
		func(l *api.Lower) { l.Txs[0] = "c" }, func(l *api.Lower) { l.Deposits[0] = "c" },
		func(l *api.Lower) { l.Txs = nil }, func(l *api.Lower) { l.Deposits = nil },
	}
	for i, change := range changes {
		a, b := []api.Lower{block(), block(), block()}, []api.Lower{block(), block()}
		if n := alike(a, b); n != 2 {
			t.Errorf("P8: three blocks and two of them are alike up to %d", n)
		}
		change(&b[1])
		if n := alike(a, b); n != 1 {
			t.Errorf("P8: with change %d of the second block they are alike up to %d", i, n)
		}
	}
}
