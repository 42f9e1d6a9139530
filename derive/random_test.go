package derive

import (
	"math/rand"
	"reflect"
	"slices"
	"strings"
	"testing"

	"tributary/api"
	"tributary/code"
)

// writer writes an upper chain of which something comes: it has a model go
// along, and writes batches that fit what comes next, or nearly do.
type writer struct {
	*rand.Rand
	model  *model
	unsent []api.Frame
	next   uint32
}

// one in n times.
func (w *writer) one(n int) bool { return w.Intn(n) == 0 }

func (w *writer) config() api.Config {
	c := api.Config{
		Inbox: w.Uint32(), Batcher: w.Uint32(),
		Timeout: 1 + w.Intn(8), Window: 1 + w.Intn(8), Drift: w.Intn(40), Step: 2 + w.Intn(6), Most: 4096,
	}
	if w.one(3) {
		c.Timeout, c.Window = 1+w.Intn(2), 1+w.Intn(2)
	}
	if w.one(3) {
		c.Drift = w.Intn(5)
	}
	if w.one(3) {
		c.Most = 1 + w.Intn(200)
	}
	if w.one(5) {
		c.Drift, c.Step = 100, 20
	}
	return c
}

func (w *writer) txs() []string {
	var l []string
	for range w.Intn(3) {
		l = append(l, strings.Repeat(string([]byte{byte(w.Intn(256))}), w.Intn(8)))
	}
	return l
}

// batches is bytes of some batches, of the times from that of the next lower
// block on, as somebody would write them with block n; now and then one is
// wrong.
func (w *writer) batches(n int) string {
	last := w.model.lower[len(w.model.lower)-1]
	t, e := last.Time+w.model.config.Step, last.Epoch
	var l []string
	for range 1 + w.Intn(6) {
		if e < n && (t >= w.model.upper[e].Time+w.Intn(30) || w.one(4)) {
			e++
		}
		epoch, id, time := e, 100+e, t
		switch w.Intn(20) {
		case 0:
			epoch += w.Intn(5) - 1
			id = 100 + epoch
		case 1:
			id++
		case 2:
			time += w.Intn(9) - 4
		}
		l = append(l, batch(max(epoch, 0), max(id, 0), max(time, 0), w.txs()...))
		t += w.model.config.Step
	}
	if w.one(4) {
		w.Shuffle(len(l), func(i, k int) { l[i], l[k] = l[k], l[i] })
	}
	if w.one(8) {
		l = slices.Insert(l, w.Intn(len(l)), w.noBatch())
	}
	if w.one(20) {
		l = slices.Insert(l, w.Intn(len(l)), batch(0, 0, 1<<40, strings.Repeat("l", 3900+w.Intn(300))))
	}
	return strings.Join(l, "")
}

func (w *writer) noBatch() string {
	wrong := []string{"\x80", "\xc0", "\x00", "\x01", "\x85\x00\xc3\x80\x80\x80", "\xff", "\xb8\x01", "\x87\x01\xc4\x80\x80\x80\xc0\x00", batch(1<<62, 0, 0), batch(0, 0, 1<<62-1)}
	return wrong[w.Intn(len(wrong))]
}

// speak cuts the bytes of a channel into frames that are to be sent.
func (w *writer) speak(bytes string) {
	w.next++
	if w.one(8) {
		w.next -= min(w.next, uint32(w.Intn(3)))
	}
	var l []api.Frame
	for {
		size := min(len(bytes), w.Intn(1+min(1000, max(30, len(bytes)))))
		f := api.Frame{Channel: w.next, Number: uint16(len(l)), Data: bytes[:size], Last: size == len(bytes)}
		l = append(l, f)
		bytes = bytes[size:]
		if w.one(12) {
			f.Last = w.one(2)
			f.Number += uint16(w.Intn(4))
			l = append(l, f)
		}
		if bytes == "" {
			break
		}
	}
	if w.one(4) {
		w.Shuffle(len(l)-1, func(i, k int) { l[i+1], l[k+1] = l[k+1], l[i+1] })
	}
	if w.one(8) {
		l = slices.Delete(l, w.Intn(len(l)), len(l))
	}
	w.unsent = append(w.unsent, l...)
}

// send is transactions that hold the frames that are to be sent, or some.
func (w *writer) send() []api.Tx {
	c := w.model.config
	var l []api.Tx
	for len(w.unsent) > 0 && len(l) < api.MaxTxs && !w.one(6) {
		n := 1 + w.Intn(3)
		n = min(n, len(w.unsent))
		data := dataOf(w.unsent[:n]...)
		if len(data) > api.MaxData {
			n = 1
			data = dataOf(w.unsent[0])
		}
		x := api.Tx{From: c.Batcher, To: c.Inbox, Data: data}
		w.unsent = w.unsent[n:]
		switch w.Intn(60) {
		case 0:
			x.From++
		case 1:
			x.To++
		case 2:
			x.Data = x.Data[:w.Intn(len(x.Data))]
		case 3:
			x.Data += "\x00"
		case 4:
			l = append(l, x)
		}
		l = append(l, x)
	}
	return l[:min(len(l), api.MaxTxs)]
}

func (w *writer) logs() []string {
	var l []string
	for range w.Intn(3) {
		s, _ := code.Encode(list(text(strings.Repeat("n", w.Intn(11))), text(strings.Repeat("v", 50+w.Intn(20)))))
		if w.one(6) {
			s += "\x80"
		}
		l = append(l, s)
	}
	return l
}

// block is the next block of the chain.
func (w *writer) block() api.Upper {
	n := len(w.model.upper)
	b := api.Upper{Id: 100 + n, Time: w.Intn(20), Logs: w.logs()}
	if n > 0 {
		gap := 1 + w.Intn(api.MaxGap)
		if w.one(2) {
			gap = 1 + w.Intn(4)
		}
		b.Time = w.model.upper[n-1].Time + gap
		for range w.Intn(3) {
			q := code.Squeeze(w.batches(n))
			if w.one(30) {
				q = q[:w.Intn(len(q))] + "\x80"
			}
			w.speak(q)
		}
	}
	b.Txs = w.send()
	return b
}

// written is a config and a chain of up to most blocks, and the lower chain
// of each of its beginnings.
func written(seed int64, most int, met map[string]int) (api.Config, []api.Upper, [][]api.Lower) {
	w := &writer{Rand: rand.New(rand.NewSource(seed)), model: &model{met: met}}
	w.model.config = w.config()
	var lowers [][]api.Lower
	for range 1 + w.Intn(most) {
		w.model.take(w.block())
		lowers = append(lowers, slices.Clone(w.model.lower))
	}
	return w.model.config, w.model.upper, lowers
}

func TestAllIsWhatTheWordsSay(t *testing.T) {
	met := map[string]int{}
	for seed := range int64(1500) {
		c, chain, lowers := written(seed, 30, met)
		got, e := All(c, chain)
		if want := lowers[len(lowers)-1]; e != api.OK || !reflect.DeepEqual(got, want) {
			t.Fatalf("P6: seed %d: %s, %d, want %s", seed, told(got), e, told(want))
		}
	}
	for _, what := range []string{
		"another's transaction", "a whole channel waits", "a channel times out", "data without frames", "data that are cut",
		"a channel is opened again", "a frame without a channel", "a frame of a spoilt channel", "a frame twice",
		"a second last frame", "a frame behind the last one", "a frame goes", "a channel is spoilt",
		"bytes are cut off", "a piece that is none", "bytes that are no item", "an item that is no batch", "a batch of an epoch to come",
		"nothing now", "drawn of e", "drawn of e + 1", "drawn behind the drift", "empty of e", "empty of e + 1",
		"goes: time", "goes: epoch", "goes: window", "goes: Id", "goes: ahead of its epoch",
		"goes: drift with transactions", "goes: drift holds an epoch back",
	} {
		if met[what] < 20 {
			t.Errorf("the chains meet %q only %d times", what, met[what])
		}
	}
}

func TestLongerUpperChainGoesOn(t *testing.T) {
	for seed := range int64(150) {
		c, chain, lowers := written(1e6+seed, api.MaxUpper, map[string]int{})
		for n := range chain {
			got, e := All(c, chain[:n+1])
			if e != api.OK || !reflect.DeepEqual(got, lowers[n]) {
				t.Fatalf("P12: seed %d: the first %d blocks give %s, %d, want %s", seed, n+1, told(got), e, told(lowers[n]))
			}
			if n > 0 && !reflect.DeepEqual(got[:len(lowers[n-1])], lowers[n-1]) {
				t.Fatalf("P12: seed %d: with block %d %s has become %s", seed, n, told(lowers[n-1]), told(got))
			}
		}
	}
}

func TestWhatFollows(t *testing.T) {
	for seed := range int64(600) {
		c, chain, _ := written(2e6+seed, api.MaxUpper, map[string]int{})
		l, e := All(c, chain)
		if e != api.OK || len(l) == 0 {
			t.Fatalf("P12: seed %d: %v, %d", seed, l, e)
		}
		checkFollows(t, c, chain, l)
		if t.Failed() {
			t.Fatalf("P12: seed %d: %s", seed, told(l))
		}
	}
}

// checkFollows holds a lower chain against the sentences of P12.
func checkFollows(t *testing.T, c api.Config, chain []api.Upper, l []api.Lower) {
	t.Helper()
	begun := map[int]int{}
	for i, x := range l {
		u := chain[x.Epoch]
		if i == 0 && (x.Time != chain[0].Time || x.Epoch != 0) {
			t.Errorf("P12: the first block is %+v", x)
		}
		if i > 0 {
			if rise := x.Epoch - l[i-1].Epoch; x.Time != l[i-1].Time+c.Step || rise < 0 || rise > 1 {
				t.Errorf("P12: %+v stands behind %+v", x, l[i-1])
			}
			if x.At < l[i-1].At {
				t.Errorf("P12: %+v was drawn ahead of %+v", x, l[i-1])
			}
		}
		if x.Time < u.Time || x.Time > u.Time+c.Drift && len(x.Txs) > 0 {
			t.Errorf("P12: %+v, of an epoch of the time %d", x, u.Time)
		}
		if x.Number != i || x.Seq != begun[x.Epoch] || x.Id != u.Id || x.At < x.Epoch || x.At >= len(chain) {
			t.Errorf("P12: block %d of epoch %d is %+v", i, x.Epoch, x)
		}
		var deposits []string
		if begun[x.Epoch] == 0 {
			deposits = modelDeposits(u)
		}
		if !slices.Equal(x.Deposits, deposits) {
			t.Errorf("P12: %+v has not the deposits %q", x, deposits)
		}
		begun[x.Epoch]++
	}
	for epoch := range chain {
		if epoch+c.Window < len(chain)-1 && begun[epoch] == 0 {
			t.Errorf("P12: no block of epoch %d", epoch)
		}
	}
}

// Whatever stands in the frames: the call ends, and tells what the words say.
func TestAllOfAnyBytes(t *testing.T) {
	r := rand.New(rand.NewSource(7))
	c := api.Config{Timeout: 2, Window: 3, Drift: 10, Step: 2, Most: 4096}
	for range 500 {
		m := &model{config: c, met: map[string]int{}}
		for n := range 1 + r.Intn(8) {
			b := api.Upper{Id: r.Intn(3) - 1, Time: 3 * n}
			for range r.Intn(api.MaxTxs + 1) {
				b.Txs = append(b.Txs, api.Tx{To: uint32(r.Intn(20) / 19), Data: anyData(r)})
				b.Logs = append(b.Logs, anyBytes(r, 8))
			}
			m.take(b)
		}
		if l, e := All(c, m.upper); e != api.OK || !reflect.DeepEqual(l, m.lower) {
			t.Fatalf("P6: %s, %d, want %s", told(l), e, told(m.lower))
		}
	}
}

// anyBytes is up to most bytes of a kind that is likely to mean something.
func anyBytes(r *rand.Rand, most int) string {
	b := make([]byte, r.Intn(most+1))
	kinds := "\x00\x00\x01\x02\x04\x07\x64\x7f\x80\x80\x81\x87\xb8\xc0\xc0\xc2\xc4\xf8\xff"
	for i := range b {
		b[i] = kinds[r.Intn(len(kinds))]
	}
	return string(b)
}

func anyData(r *rand.Rand) string {
	if r.Intn(10) == 0 {
		return anyBytes(r, 30)
	}
	var l []api.Frame
	for range 1 + r.Intn(3) {
		l = append(l, api.Frame{Channel: uint32(r.Intn(3)), Number: uint16(r.Intn(3)), Data: anyBytes(r, 20), Last: r.Intn(2) == 0})
	}
	return dataOf(l...)
}
