package node

import (
	"fmt"
	"math/rand"
	"slices"
	"testing"

	"tributary/api"
	"tributary/code"
)

// driving is a watched node on which this and that is called: blocks come of
// which lower blocks are drawn, the chain turns, and now and then the node is
// stepped.
type driving struct {
	*rand.Rand
	*watched
	unsent  []api.Frame
	channel uint32
}

func driver(t *testing.T, seed int64) *driving {
	t.Helper()
	r := rand.New(rand.NewSource(seed))
	c := api.Config{
		Inbox: 9, Batcher: 8, Timeout: 1 + r.Intn(8), Window: 1 + r.Intn(8),
		Drift: r.Intn(101), Step: 2 + r.Intn(19), Most: 1 + r.Intn(4096),
	}
	if r.Intn(4) > 0 {
		c.Timeout, c.Window, c.Drift, c.Step, c.Most = 1+r.Intn(4), 1+r.Intn(3), r.Intn(30), 2+r.Intn(3), 1000
	}
	d := &driving{Rand: r}
	first := api.Upper{Id: r.Int(), Time: r.Intn(9), Logs: d.logs()}
	if r.Intn(2) == 0 {
		first.Txs = []api.Tx{say(whole(0, batch(0, 1, first.Time+c.Step, "first"), batch(0, 1, first.Time+2*c.Step)))}
	}
	d.watched = watch(t, c, first)
	d.what = fmt.Sprintf("seed %d", seed)
	return d
}

// driven is what a node tells at each of some acts.
func driven(t *testing.T, seed int64) []string {
	d := driver(t, seed)
	var l []string
	for range 200 {
		l = append(l, d.act())
	}
	return l
}

// act does something, and tells what came of it.
func (d *driving) act() string {
	d.t.Helper()
	what := "nothing"
	switch k := d.Intn(24); {
	case k < 8 && len(d.chain) < api.MaxUpper:
		d.extend(d.block())
		what = "extend"
	case k == 8:
		d.turn(d.Intn(min(len(d.chain), 5)))
		what = "turn"
	case k == 9 && d.Intn(6) == 0:
		d.turn(d.Intn(len(d.chain)))
		what = "turn far"
	case k == 10 && d.Intn(2) == 0:
		d.turnAndGrow()
		what = "turn and grow"
	case k == 11 && d.Intn(2) == 0:
		d.fail(d.Intn(4))
		what = "fail"
	case k == 12 && d.Intn(3) == 0:
		d.resetNow()
		what = "reset"
	case k == 13:
		d.idle()
		what = "idle"
	case k > 13:
		what = fmt.Sprint("step ", d.step())
	}
	return fmt.Sprintln(what, len(d.log), d.log[len(d.log)-1])
}

// turnAndGrow lets the chain become another one of the same length, or of
// nearly that.
func (d *driving) turnAndGrow() {
	d.t.Helper()
	length := len(d.chain)
	d.turn(d.Intn(min(length, 8)))
	for len(d.chain) < min(length+d.Intn(3)-1, api.MaxUpper) {
		d.extend(d.block())
	}
}

func (d *driving) logs() []string {
	var l []string
	for range d.Intn(3) {
		l = append(l, deposit(fmt.Sprint(d.Intn(1000))))
	}
	return l
}

// block is one that may come next: with batches that fit what the chain gives
// so far, or nearly do, in channels that are cut into frames.
func (d *driving) block() api.Upper {
	for range d.Intn(3) {
		d.speak(d.batches())
	}
	b := api.Upper{Id: d.Intn(9), Time: d.chain[len(d.chain)-1].Time + 1 + d.Intn(8), Logs: d.logs()}
	if d.Intn(4) == 0 {
		b.Time += d.Intn(17)
	}
	for len(d.unsent) > 0 && d.Intn(4) > 0 && len(b.Txs) < api.MaxTxs {
		n := min(1+d.Intn(2), len(d.unsent))
		b.Txs = append(b.Txs, say(d.unsent[:n]...))
		d.unsent = d.unsent[n:]
	}
	return b
}

// batches is bytes of batches, of the times that come next.
func (d *driving) batches() string {
	lower := d.gives(d.chain)
	last := lower[len(lower)-1]
	e, t, s := last.Epoch, last.Time, ""
	for range 1 + d.Intn(5) {
		t += d.config.Step
		if e+1 < len(d.chain) && (d.Intn(3) == 0 || d.chain[e+1].Time+d.Intn(9) <= t) {
			e++
		}
		id := d.chain[e].Id
		if d.Intn(12) == 0 {
			id = 1 + d.Intn(d.lastId)
		}
		txs := make([]string, d.Intn(3))
		for i := range txs {
			txs[i] = fmt.Sprint("tx", d.Intn(100))
		}
		s += batch(e, id, t, txs...)
	}
	return s
}

// speak cuts bytes into the frames of a channel, which are to be sent.
func (d *driving) speak(bytes string) {
	q := code.Squeeze(bytes)
	d.channel++
	var l []api.Frame
	for first := true; first || q != ""; first = false {
		size := min(1+d.Intn(60), len(q))
		l = append(l, api.Frame{Channel: d.channel % 5, Number: uint16(len(l)), Data: q[:size], Last: size == len(q)})
		q = q[size:]
	}
	if d.Intn(4) == 0 && len(l) > 1 {
		slices.Reverse(l[1:])
	}
	d.unsent = append(d.unsent, l...)
}

func TestWhateverIsCalledThePromisesHold(t *testing.T) {
	t.Parallel()
	met := map[string]int{}
	for seed := range int64(200) {
		d := driver(t, seed)
		for range 150 {
			d.act()
		}
		d.fail(0)
		d.idle()
		for what, n := range d.met {
			met[what] += n
		}
		for _, l := range d.log {
			if len(l.Txs) > 0 {
				met["a block with transactions"]++
			}
		}
	}
	for _, what := range []string{
		"going", "idle", "failed", "back by nothing", "back to the first block", "back to the midst",
		"back by a Reset of a chain that turned", "a block with transactions",
	} {
		if met[what] < 20 {
			t.Errorf("%q is met only %d times", what, met[what])
		}
	}
}
