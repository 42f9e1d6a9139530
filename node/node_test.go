package node

import (
	"reflect"
	"strings"
	"testing"
	"unsafe"

	"tributary/api"
	"tributary/derive"
)

const (
	least = -1 << 63
	most  = 1<<63 - 1
)

func TestNewRefuses(t *testing.T) {
	many := make([]api.Tx, api.MaxTxs+1)
	long := strings.Repeat("l", api.MaxData+1)
	blocks := []api.Upper{
		{Time: -1}, {Time: api.MaxStart + 1}, {Time: least}, {Time: most},
		{Txs: many}, {Logs: make([]string, api.MaxTxs+1)}, {Txs: []api.Tx{{Data: long}}}, {Logs: []string{long}},
	}
	for _, b := range blocks {
		if n, e := New(plain, b); n != nil || e != api.ErrBlock {
			t.Errorf("P7: New of a block that may not be: %v, %d", n, e)
		}
		if n, e := New(api.Config{}, b); n != nil || e != api.ErrConfig {
			t.Errorf("P7: New of a block and a config that may not be: %v, %d", n, e)
		}
	}
	edges := []func(*api.Config){
		func(c *api.Config) { c.Timeout = 0 }, func(c *api.Config) { c.Timeout = 9 },
		func(c *api.Config) { c.Window = 0 }, func(c *api.Config) { c.Window = 9 },
		func(c *api.Config) { c.Drift = -1 }, func(c *api.Config) { c.Drift = 101 },
		func(c *api.Config) { c.Step = 1 }, func(c *api.Config) { c.Step = 21 },
		func(c *api.Config) { c.Most = 0 }, func(c *api.Config) { c.Most = 4097 },
	}
	for _, edge := range edges {
		c := plain
		edge(&c)
		if n, e := New(c, api.Upper{}); n != nil || e != api.ErrConfig {
			t.Errorf("P7: New(%+v): %v, %d", c, n, e)
		}
	}
}

func TestNewTakesWhatMayBe(t *testing.T) {
	full := api.Upper{Time: api.MaxStart, Txs: make([]api.Tx, api.MaxTxs), Logs: make([]string, api.MaxTxs)}
	full.Txs[3].Data = strings.Repeat("d", api.MaxData)
	full.Logs[19] = deposit("last")
	for _, id := range []int{0, 1, 2, 77, -1, least, most} {
		full.Id = id
		w := watch(t, plain, full)
		want := []api.Lower{{Time: api.MaxStart, Id: 1, Deposits: []string{deposit("last")}}}
		if !reflect.DeepEqual(w.log, want) {
			t.Errorf("P7: New of a block with the Id %d: %s", id, told(w.log))
		}
		w.steps(api.Idle)
	}
}

// Of the first block more may come than the lower block 0.
func TestLowerBlockZeroIsAloneInANewLog(t *testing.T) {
	w := watch(t, plain, at(0, say(whole(1, batch(0, 1, 2, "a"), batch(0, 1, 4, "b")))))
	w.resetNow()
	w.steps(api.Back)
	if len(w.log) != 1 {
		t.Errorf("P8: back to %s", told(w.log))
	}
	w.idle()
	if len(w.log) != 3 {
		t.Errorf("P9: %s", told(w.log))
	}
}

func TestExtendRefuses(t *testing.T) {
	w := watch(t, plain, up(5)...)
	long := strings.Repeat("l", api.MaxData+1)
	wrong := []api.Upper{
		{Time: 5}, {Time: 4}, {Time: 30}, {Time: least}, {Time: most},
		{Time: 6, Txs: make([]api.Tx, 21)}, {Time: 6, Logs: make([]string, 21)},
		{Time: 6, Txs: []api.Tx{{}, {Data: long}}}, {Time: 6, Logs: []string{"", long}},
	}
	for _, b := range wrong {
		if id, e := w.node.Extend(b); id != 0 || e != api.ErrBlock {
			t.Errorf("P7: Extend by a block that may not be: %d, %d", id, e)
		}
	}
	w.steps(api.Idle)
	w.extend(api.Upper{Id: -5, Time: 29, Txs: make([]api.Tx, 20), Logs: make([]string, 20)})
	w.extend(api.Upper{Id: 2, Time: 30})
	w.idle()
}

func TestTheSixtyFirstBlock(t *testing.T) {
	w := watch(t, plain, up(0)...)
	for n := 1; n < api.MaxUpper; n++ {
		w.extend(api.Upper{Time: n})
	}
	for _, b := range []api.Upper{{Time: api.MaxUpper}, {Time: -1}} {
		if id, e := w.node.Extend(b); id != 0 || e != api.ErrFull {
			t.Errorf("P7: a 61st block: %d, %d", id, e)
		}
	}
	w.idle()
	w.turn(1)
	w.extend(api.Upper{Time: 70})
	if id, e := w.node.Extend(api.Upper{Time: 71}); id != 0 || e != api.ErrFull {
		t.Errorf("P7: a 61st block: %d, %d", id, e)
	}
	w.idle()
}

func TestTurn(t *testing.T) {
	for _, stepped := range []bool{false, true} {
		w := watch(t, plain, up(0, 3, 6, 9, 12)...)
		if stepped {
			w.idle()
		}
		for _, depth := range []int{-1, 5, 6, least, most} {
			if e := w.node.Turn(depth); e != api.ErrDepth {
				t.Errorf("P7: Turn(%d) of five blocks: %d", depth, e)
			}
		}
		w.turn(0)
		w.idle()
		w.turn(4)
		w.idle()
		if len(w.log) != 1 {
			t.Errorf("P9: one block gives %s", told(w.log))
		}
		for _, depth := range []int{-1, 1, 2} {
			if e := w.node.Turn(depth); e != api.ErrDepth {
				t.Errorf("P7: Turn(%d) of one block: %d", depth, e)
			}
		}
		w.turn(0)
		w.extend(api.Upper{Time: 4})
		w.idle()
	}
}

func TestFail(t *testing.T) {
	w := watch(t, plain, up(0, 3, 6, 9, 12)...)
	for _, times := range []int{-1, 21, least, most} {
		if e := w.node.Fail(times); e != api.ErrDepth {
			t.Errorf("P7: Fail(%d): %d", times, e)
		}
	}
	w.steps(api.Going)
	w.fail(2)
	if e := w.node.Fail(21); e != api.ErrDepth {
		t.Errorf("P7: Fail(21): %d", e)
	}
	w.steps(api.Failed, api.Failed, api.Going)
	w.fail(20)
	for range 20 {
		w.steps(api.Failed)
	}
	w.steps(api.Going)
	w.fail(20)
	w.steps(api.Failed)
	w.fail(1)
	w.steps(api.Failed, api.Going)
	w.fail(1)
	w.fail(3)
	w.steps(api.Failed, api.Failed, api.Failed)
	w.fail(5)
	w.fail(0)
	w.idle()
	w.fail(1)
	w.steps(api.Failed, api.Idle)
}

func TestLowerBlocksOfTheDocument(t *testing.T) {
	c := plain
	c.Window, c.Drift = 1, 100
	w := watch(t, c, up(0, 3, 6)...)
	w.idle()
	want := []api.Lower{{Id: 1}, {Number: 1, Time: 2, Id: 1, Seq: 1, At: 2}, {Number: 2, Time: 4, Epoch: 1, Id: 2, At: 2}}
	if !reflect.DeepEqual(w.log, want) {
		t.Errorf("P9: %s", told(w.log))
	}
}

// writable is a string over bytes that can be written to.
func writable(s string) (string, []byte) {
	b := []byte(s)
	return unsafe.String(&b[0], len(b)), b
}

func TestWhatIsHandedInMayBeWrittenOver(t *testing.T) {
	block := func(time int, id int) (api.Upper, []byte, []byte) {
		data, d := writable(dataOf(whole(1, batch(0, 1, 2*id, "transaction"))))
		log, l := writable(deposit("name"))
		return api.Upper{Time: time, Txs: []api.Tx{{From: 8, To: 9, Data: data}}, Logs: []string{log}}, d, l
	}
	over := func(b api.Upper, d, l []byte) {
		for i := range d {
			d[i] = 'X'
		}
		for i := range l {
			l[i] = 'X'
		}
		b.Txs[0].From = 0
		b.Logs[0] = "mine"
	}
	var chain []api.Upper
	var n *Node
	for number := range 5 {
		kept, _, _ := block(3*number, number+1)
		kept.Id = number + 1
		chain = append(chain, kept)
		b, d, l := block(3*number, number+1)
		if number == 0 {
			n, _ = New(plain, b)
		} else {
			n.Extend(b)
		}
		over(b, d, l)
		if number == 2 {
			for n.Step() != api.Idle {
			}
		}
	}
	n.Reset()
	for n.Step() != api.Idle {
	}
	want, e := derive.All(plain, chain)
	if l := n.Log(); e != api.OK || len(want) < 4 || !reflect.DeepEqual(l, want) {
		t.Errorf("P2: what was handed in is written over: %s, want %s", told(l), told(want))
	}
}

func TestWhatCameOutMayBeWrittenOver(t *testing.T) {
	w := watch(t, plain, at(0, say(whole(1, batch(0, 1, 2, "a", "b"), batch(0, 1, 4, "c")))))
	b := api.Upper{Time: 3, Logs: []string{deposit("d"), deposit("e")}}
	for n := 1; n < 8; n++ {
		b.Time = 3 * n
		w.extend(b)
	}
	spoil := func() {
		l := w.node.Log()
		for i := range l {
			for k := range l[i].Txs {
				l[i].Txs[k] = "mine"
			}
			for k := range l[i].Deposits {
				l[i].Deposits[k] = "mine"
			}
			_ = append(l[i].Txs, "mine")
			_ = append(l[i].Deposits, "mine")
			l[i] = api.Lower{Number: 99}
		}
		_ = append(l, api.Lower{Number: 99})
		w.unchanged("writing over a log that came out")
	}
	for w.step() != api.Idle {
		spoil()
	}
	w.turn(2)
	w.extend(api.Upper{Time: 19})
	w.resetNow()
	for w.step() != api.Idle {
		spoil()
	}
	spoil()
	w.idle()
	w.resetNow()
	w.idle()
}

func TestTwoNodesByTurns(t *testing.T) {
	alone := driven(t, 11)
	a, b, other := driver(t, 11), driver(t, 11), driver(t, 12)
	for i, want := range alone {
		other.act()
		x := a.act()
		other.act()
		y := b.act()
		if x != want || y != want {
			t.Fatalf("P2: act %d tells %q and %q beside other nodes, %q alone", i, x, y, want)
		}
	}
}
