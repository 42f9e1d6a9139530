package derive

import (
	"fmt"
	"math"
	"reflect"
	"strings"
	"testing"

	"tributary/api"
	"tributary/code"
)

var plain = api.Config{Inbox: 9, Batcher: 8, Timeout: 2, Window: 2, Drift: 10, Step: 2, Most: 1000}

func text(s string) api.Item { return api.Item{Bytes: s} }

func list(l ...api.Item) api.Item { return api.Item{List: true, Kids: l} }

func texts(l ...string) api.Item {
	i := list()
	for _, s := range l {
		i.Kids = append(i.Kids, text(s))
	}
	return i
}

func num(n int) api.Item {
	s := ""
	for ; n > 0; n >>= 8 {
		s = string([]byte{byte(n)}) + s
	}
	return text(s)
}

// coded is the code of an item that has one.
func coded(i api.Item) string {
	s, e := code.Encode(i)
	if e != api.OK {
		panic("an item without a code")
	}
	return s
}

// versioned is a string of this byte and of the code of an item.
func versioned(version byte, i api.Item) string {
	return coded(text(string([]byte{version}) + coded(i)))
}

func batch(epoch, id, time int, txs ...string) string {
	return versioned(0, list(num(epoch), num(id), num(time), texts(txs...)))
}

// say is a transaction of these frames, for the config plain.
func say(frames ...api.Frame) api.Tx { return api.Tx{From: 8, To: 9, Data: dataOf(frames...)} }

func piece(channel uint32, number uint16, data string) api.Frame {
	return api.Frame{Channel: channel, Number: number, Data: data}
}

func lastPiece(channel uint32, number uint16, data string) api.Frame {
	return api.Frame{Channel: channel, Number: number, Data: data, Last: true}
}

// whole is a channel in one frame.
func whole(channel uint32, batches ...string) api.Frame {
	return lastPiece(channel, 0, code.Squeeze(strings.Join(batches, "")))
}

// up is an upper chain of blocks at these times, with Ids from 100 on.
func up(times ...int) []api.Upper {
	var l []api.Upper
	for i, t := range times {
		l = append(l, api.Upper{Id: 100 + i, Time: t})
	}
	return l
}

// with is a chain with these transactions in block n.
func with(chain []api.Upper, n int, txs ...api.Tx) []api.Upper {
	chain[n].Txs = append(chain[n].Txs, txs...)
	return chain
}

// told is a lower chain as a text: for each block its time, epoch, Seq, transactions and At.
func told(l []api.Lower) string {
	var s []string
	for _, x := range l {
		s = append(s, fmt.Sprintf("%d:%d.%d%.20q@%d", x.Time, x.Epoch, x.Seq, x.Txs, x.At))
	}
	return strings.Join(s, " ")
}

const first = `0:0.0[]@0` // the lower block 0, if upper block 0 has the time 0

func see(t *testing.T, what string, c api.Config, chain []api.Upper, want string) {
	t.Helper()
	want = strings.TrimSpace(first + " " + want)
	if l, e := All(c, chain); e != api.OK || told(l) != want {
		t.Errorf("P6: %s: %s, %d, want %s", what, told(l), e, want)
	}
}

// has tells whether a lower chain has this transaction.
func has(t *testing.T, c api.Config, chain []api.Upper, tx string) bool {
	t.Helper()
	l, e := All(c, chain)
	if e != api.OK {
		t.Fatalf("P6: error %d", e)
	}
	for _, x := range l {
		for _, s := range x.Txs {
			if s == tx {
				return true
			}
		}
	}
	return false
}

func checkError(t *testing.T, what string, c api.Config, chain []api.Upper, want api.Errno) {
	t.Helper()
	l, e := All(c, chain)
	if e != want || (e == api.OK) != (len(l) > 0) {
		t.Errorf("P6: %s: %v, %d, want the error %d", what, l, e, want)
	}
}

func TestConfigBounds(t *testing.T) {
	for _, f := range []struct {
		name        string
		of          func(c *api.Config) *int
		least, most int
	}{
		{"Timeout", func(c *api.Config) *int { return &c.Timeout }, 1, 8},
		{"Window", func(c *api.Config) *int { return &c.Window }, 1, 8},
		{"Drift", func(c *api.Config) *int { return &c.Drift }, 0, 100},
		{"Step", func(c *api.Config) *int { return &c.Step }, 2, 20},
		{"Most", func(c *api.Config) *int { return &c.Most }, 1, 4096},
	} {
		for _, n := range []int{f.least, f.least + 1, f.most - 1, f.most} {
			c := plain
			*f.of(&c) = n
			checkError(t, fmt.Sprint(f.name, " ", n), c, up(0, 3, 6), api.OK)
			checkError(t, fmt.Sprint(f.name, " ", n, ", no blocks"), c, nil, api.ErrBlock)
		}
		for _, n := range []int{f.least - 1, f.most + 1, -f.most, math.MinInt, math.MaxInt} {
			c := plain
			*f.of(&c) = n
			for _, chain := range [][]api.Upper{up(0, 3, 6), up(-1), nil} {
				checkError(t, fmt.Sprint(f.name, " ", n), c, chain, api.ErrConfig)
			}
		}
	}
	checkError(t, "no config", api.Config{}, up(0), api.ErrConfig)
	for _, n := range []uint32{0, math.MaxUint32} {
		c := plain
		c.Inbox, c.Batcher = n, n
		x := api.Tx{From: n, To: n, Data: dataOf(whole(1, batch(0, 100, 2, "a")))}
		see(t, "one name for both", c, with(up(0, 4), 1, x), `2:0.1["a"]@1`)
	}
}

func TestNumberOfBlocks(t *testing.T) {
	var times []int
	for i := range 62 {
		times = append(times, 3*i)
	}
	checkError(t, "60 blocks", plain, up(times[:60]...), api.OK)
	checkError(t, "61 blocks", plain, up(times[:61]...), api.ErrBlock)
	checkError(t, "62 blocks", plain, up(times...), api.ErrBlock)
	checkError(t, "no blocks", plain, []api.Upper{}, api.ErrBlock)
	checkError(t, "nil", plain, nil, api.ErrBlock)
}

func TestTimesOfBlocks(t *testing.T) {
	for _, n := range []int{0, 1, 999999, 1000000} {
		checkError(t, fmt.Sprint("the first one's ", n), plain, up(n), api.OK)
		for _, gap := range []int{1, 2, 23, 24} {
			checkError(t, fmt.Sprint("a gap of ", gap), plain, up(n, n+gap, n+2*gap), api.OK)
		}
		for _, gap := range []int{-25, -24, -1, 0, 25, 26, math.MinInt, math.MaxInt - 1000024} {
			checkError(t, fmt.Sprint("a gap of ", gap), plain, up(n, n+gap), api.ErrBlock)
			checkError(t, fmt.Sprint("a gap of 5, and one of ", gap), plain, up(n, n+5, n+5+gap), api.ErrBlock)
			checkError(t, fmt.Sprint("a gap of ", gap, ", and one of 24"), plain, up(n, n+gap, n+gap+24), api.ErrBlock)
		}
	}
	for _, n := range []int{-1, 1000001, math.MinInt, math.MaxInt} {
		checkError(t, fmt.Sprint("the first one's ", n), plain, up(n), api.ErrBlock)
		checkError(t, fmt.Sprint("the first one's ", n), plain, up(n, n+1), api.ErrBlock)
	}
	checkError(t, "far above 1000000", plain, up(1000000, 1000024, 1000048), api.OK)
}

func TestSizesOfBlocks(t *testing.T) {
	most, more := strings.Repeat("x", 2000), strings.Repeat("x", 2001)
	for n := range 3 {
		for _, c := range []struct {
			what string
			b    api.Upper
			want api.Errno
		}{
			{"20 transactions", api.Upper{Txs: make([]api.Tx, 20)}, api.OK},
			{"21 transactions", api.Upper{Txs: make([]api.Tx, 21)}, api.ErrBlock},
			{"20 logs", api.Upper{Logs: make([]string, 20)}, api.OK},
			{"21 logs", api.Upper{Logs: make([]string, 21)}, api.ErrBlock},
			{"20 of both", api.Upper{Txs: make([]api.Tx, 20), Logs: make([]string, 20)}, api.OK},
			{"a transaction of 2000 bytes", api.Upper{Txs: []api.Tx{{}, {Data: most}}}, api.OK},
			{"a transaction of 2001 bytes", api.Upper{Txs: []api.Tx{{}, {Data: more}}}, api.ErrBlock},
			{"the batcher's, of 2001 bytes", api.Upper{Txs: []api.Tx{{From: 8, To: 9, Data: more}, {}}}, api.ErrBlock},
			{"a log of 2000 bytes", api.Upper{Logs: []string{"", most}}, api.OK},
			{"a log of 2001 bytes", api.Upper{Logs: []string{"", more}}, api.ErrBlock},
			{"a log of 2001 bytes, first", api.Upper{Logs: []string{more, ""}}, api.ErrBlock},
		} {
			chain := up(0, 3, 6)
			c.b.Time = chain[n].Time
			chain[n] = c.b
			checkError(t, fmt.Sprint(c.what, " in block ", n), plain, chain, c.want)
		}
	}
}

func TestWithoutBatches(t *testing.T) {
	c := api.Config{Timeout: 1, Window: 1, Step: 2, Drift: 100, Most: 1}
	see(t, "one block", c, up(0), "")
	see(t, "two blocks", c, up(0, 3), "")
	see(t, "the example", c, up(0, 3, 6), "2:0.1[]@2 4:1.0[]@2")
	see(t, "the next block just at the time", c, up(0, 2, 6), "2:1.0[]@2")
	see(t, "one more", c, up(0, 3, 6, 9), "2:0.1[]@2 4:1.0[]@2 6:2.0[]@3")
	see(t, "a long gap", c, up(0, 24, 25), "2:0.1[]@2 4:0.2[]@2 6:0.3[]@2 8:0.4[]@2 10:0.5[]@2 12:0.6[]@2 14:0.7[]@2 16:0.8[]@2 18:0.9[]@2 20:0.10[]@2 22:0.11[]@2 24:1.0[]@2")
	c.Step, c.Drift = 20, 0
	see(t, "gaps below Step", c, up(0, 3, 6, 9, 12), "20:1.0[]@2 40:2.0[]@3 60:3.0[]@4")
	for window := 1; window <= 8; window++ {
		c := plain
		c.Window = window
		var times []int
		for i := range window + 1 {
			times = append(times, 2*i)
		}
		see(t, fmt.Sprint("Window ", window, " just kept"), c, up(times...), "")
		see(t, fmt.Sprint("Window ", window, " just passed"), c, up(append(times, 2*window+2)...), fmt.Sprintf("2:1.0[]@%d", window+1))
	}
}

func TestFirstBlock(t *testing.T) {
	for _, id := range []int{0, 1, -1, math.MinInt, math.MaxInt} {
		chain := []api.Upper{{Id: id, Time: 1000000, Logs: []string{"\xc2\x07\x80", "none"}}}
		want := []api.Lower{{Time: 1000000, Id: id, Deposits: []string{"\xc2\x07\x80"}}}
		if l, e := All(plain, chain); e != api.OK || !reflect.DeepEqual(l, want) {
			t.Errorf("P6: the first block is %+v, %d", l, e)
		}
	}
}

func TestIdsAreThoseOfTheBlocks(t *testing.T) {
	c := plain
	c.Window = 1
	chain := up(5, 8, 11, 14)
	ids := []int{-7, 1 << 62, -7, 0}
	for i, id := range ids {
		chain[i].Id = id
	}
	l, e := All(c, chain)
	if e != api.OK || len(l) != 4 {
		t.Fatalf("P6: %s, %d", told(l), e)
	}
	for i, x := range l {
		if x.Id != ids[x.Epoch] || x.Number != i {
			t.Errorf("P6: block %d is %+v", i, x)
		}
	}
	// The Id 0 is the empty string; the greatest number is an Id too, and what is no number ends reading.
	for _, id := range []int{0, 1, 127, 128, 255, 256, 1<<62 - 1} {
		chain := with(up(0, 4), 1, say(whole(1, batch(0, id, 2, "a"))))
		chain[0].Id = id
		see(t, fmt.Sprint("the Id ", id), plain, chain, `2:0.1["a"]@1`)
	}
	for _, id := range []int{-1, 1 << 62, math.MinInt, math.MaxInt} {
		chain := with(up(0, 4), 1, say(whole(1, batch(0, 1<<62-1, 2, "a"), versioned(0, list(num(0), text("\x40\x00\x00\x00\x00\x00\x00\x00"), num(2), texts("b"))))))
		chain[0].Id = id
		see(t, fmt.Sprint("the Id ", id), plain, chain, "")
	}
}

func TestBatchesInTheirOrder(t *testing.T) {
	chain := func(batches ...string) []api.Upper { return with(up(0, 4, 8), 1, say(whole(1, batches...))) }
	see(t, "two", plain, chain(batch(0, 100, 2, "a", "", "b"), batch(1, 101, 4)), `2:0.1["a" "" "b"]@1 4:1.0[]@1`)
	see(t, "the later one first", plain, chain(batch(1, 101, 4, "c"), batch(0, 100, 2, "a")), `2:0.1["a"]@1 4:1.0["c"]@1`)
	see(t, "two of one time", plain, chain(batch(0, 100, 2, "a"), batch(0, 100, 2, "b")), `2:0.1["a"]@1`)
	see(t, "the first one wrong", plain, chain(batch(0, 101, 2, "a"), batch(0, 100, 2, "b"), batch(0, 100, 2, "c")), `2:0.1["b"]@1`)
	see(t, "two epochs of one time", plain, chain(batch(0, 100, 2, "a"), batch(1, 101, 4, "b"), batch(0, 100, 4, "c")), `2:0.1["a"]@1 4:1.0["b"]@1`)
	see(t, "a gap between", plain, chain(batch(0, 100, 2, "a"), batch(0, 100, 6, "c")), `2:0.1["a"]@1`)
	late := with(chain(batch(0, 100, 4, "b")), 2, say(whole(1, batch(0, 100, 2, "a"))))
	see(t, "the first one later", plain, late, `2:0.1["a"]@2 4:0.2["b"]@2`)
	see(t, "with block 0", plain, with(up(0), 0, say(whole(1, batch(0, 100, 2, "a"), batch(0, 100, 4, "b")))), `2:0.1["a"]@0 4:0.2["b"]@0`)
}

func TestBatchesThatDoNotFit(t *testing.T) {
	chain := func(batches ...string) []api.Upper { return with(up(0, 3, 6), 2, say(whole(1, batches...))) }
	see(t, "of the last block's time", plain, chain(batch(0, 100, 0, "a")), "")
	see(t, "below its time", plain, chain(batch(0, 100, 1, "a")), "")
	see(t, "above its time", plain, chain(batch(0, 100, 3, "a")), "")
	see(t, "the greatest time", plain, chain(batch(0, 100, 1<<62-1, "a"), batch(0, 100, 2, "b")), `2:0.1["b"]@2`)
	see(t, "an epoch too far", plain, chain(batch(0, 100, 2), batch(0, 100, 4), batch(2, 102, 6, "a")), "2:0.1[]@2 4:0.2[]@2")
	see(t, "the epoch behind it", plain, chain(batch(0, 100, 2), batch(1, 101, 4), batch(0, 100, 6, "a")), "2:0.1[]@2 4:1.0[]@2")
	see(t, "the same epoch, and the next", plain, chain(batch(0, 100, 2), batch(1, 101, 4), batch(1, 101, 6, "a"), batch(2, 102, 8, "b")), `2:0.1[]@2 4:1.0[]@2 6:1.1["a"]@2 8:2.0["b"]@2`)
	see(t, "the Id of another block", plain, chain(batch(0, 101, 2, "a")), "")
	see(t, "the Id of the epoch ahead", plain, chain(batch(0, 100, 2), batch(1, 100, 4, "a")), "2:0.1[]@2")
	see(t, "ahead of its epoch's time", plain, chain(batch(1, 101, 2, "a")), "")
	just := up(0, 2, 6)
	see(t, "just at its epoch's time", plain, with(just, 2, say(whole(1, batch(1, 101, 2, "a")))), `2:1.0["a"]@2`)
	// A batch read with a block below its epoch is nothing, but those behind it are read.
	see(t, "an epoch to come", plain, with(up(0, 2, 4), 0, say(whole(1, batch(1, 101, 2, "a")))), "")
	see(t, "behind one of an epoch to come", plain, with(up(0, 2), 0, say(whole(1, batch(1, 101, 2, "a"), batch(1<<62-1, 0, 0), batch(0, 100, 2, "b")))), `2:0.1["b"]@0`)
	see(t, "an epoch that is there just now", plain, with(up(0, 2), 1, say(whole(1, batch(1, 101, 2, "a")))), `2:1.0["a"]@1`)
}

func TestWindow(t *testing.T) {
	for window := 1; window <= 8; window++ {
		c := plain
		c.Window, c.Drift = window, 100
		var times []int
		for i := range window + 3 {
			times = append(times, 24*i)
		}
		tx := say(whole(1, batch(0, 100, 2, "a")))
		if chain := up(times...); !has(t, c, with(chain, window, tx), "a") {
			t.Errorf("P6: Window %d: a batch with the last block of its window goes", window)
		}
		if chain := up(times...); has(t, c, with(chain, window+1, tx), "a") {
			t.Errorf("P6: Window %d: a batch with the first block behind its window is drawn", window)
		}
		// With block Window + 1 lower blocks come up to the first one of epoch 1, at the time 24.
		for behind, want := range []bool{true, false} {
			place := window + 1 + behind
			chain := with(up(times...), place, say(whole(1, batch(1, 101, 26, "b"))))
			if has(t, c, chain, "b") != want {
				t.Errorf("P6: Window %d: a batch of epoch 1 with block %d", window, place)
			}
		}
	}
	// What counts is the block with which it was read, not that with which it is drawn.
	c := plain
	c.Window = 1
	chain := with(up(0, 4, 8), 1, say(whole(1, batch(0, 100, 4, "b"))))
	see(t, "read within its window", c, chain, `2:0.1[]@2 4:0.2["b"]@2 6:1.0[]@2`)
}

// A batch goes for its window even if it is of the next epoch, of which a block could be drawn.
func TestWindowOfTheNextEpoch(t *testing.T) {
	c := plain
	c.Window, c.Drift = 1, 100
	chain := with(up(0, 1, 2, 3), 2, say(whole(1, batch(1, 101, 2, "a"))))
	see(t, "just kept", c, chain, `2:1.0["a"]@2 4:2.0[]@3`)
	chain = with(up(0, 1, 2, 24, 25), 3, say(whole(1, batch(1, 101, 4, "a"), batch(2, 102, 6, "b"))))
	see(t, "just passed", c, chain, `2:1.0[]@2 4:2.0[]@3 6:2.1["b"]@3 8:2.2[]@4 10:2.3[]@4 12:2.4[]@4 14:2.5[]@4 16:2.6[]@4 18:2.7[]@4 20:2.8[]@4 22:2.9[]@4 24:3.0[]@4`)
}

func TestDrift(t *testing.T) {
	c := plain
	for _, d := range []struct {
		drift int
		want  string
	}{{0, ""}, {1, ""}, {2, `2:0.1["a"]@1`}, {3, `2:0.1["a"]@1`}} {
		c.Drift = d.drift
		see(t, fmt.Sprint("transactions, Drift ", d.drift), c, with(up(0, 4), 1, say(whole(1, batch(0, 100, 2, "a")))), d.want)
	}
	// The next epoch's first block may be late too, and then has no transactions.
	c.Drift, c.Step = 9, 20
	see(t, "the next epoch, late", c, with(up(0, 10), 1, say(whole(1, batch(1, 101, 20, "a"), batch(1, 101, 20)))), "20:1.0[]@1")
	c.Drift = 10
	see(t, "the next epoch, not late", c, with(up(0, 10), 1, say(whole(1, batch(1, 101, 20, "a"), batch(1, 101, 20)))), `20:1.0["a"]@1`)
	// Without transactions a late block may stay in its epoch as long as the next one's time is to come.
	c.Drift, c.Step = 1, 2
	empty := say(whole(1, batch(0, 100, 2)))
	see(t, "the next epoch's time is to come", c, with(up(0, 3), 1, empty), "2:0.1[]@1")
	see(t, "the next epoch's time is there", c, with(up(0, 2), 1, empty), "")
	c.Drift = 2
	see(t, "the next epoch's time is there, but it is not late", c, with(up(0, 2), 1, empty), "2:0.1[]@1")
}

func TestGreatestDrift(t *testing.T) {
	c := plain
	c.Drift, c.Most = 100, 4096
	var batches []string
	for time := 2; time <= 98; time += 2 {
		batches = append(batches, batch(0, 100, time))
	}
	for end, want := range map[int]bool{100: true, 102: false} {
		l := append(batches, batch(0, 100, 100, "at 100"), batch(0, 100, 102, "at 102"))
		chain := with(up(0, 24), 1, say(whole(1, l...)))
		if has(t, c, chain, fmt.Sprint("at ", end)) != want {
			t.Errorf("P6: Drift 100, at the time %d", end)
		}
	}
}

func TestNothingIsDrawnNow(t *testing.T) {
	c := plain
	c.Drift = 1
	empty := batch(0, 100, 2)
	see(t, "the next epoch is not known", c, with(up(0), 0, say(whole(1, empty))), "")
	see(t, "it is drawn later", c, with(up(0, 3), 0, say(whole(1, empty))), "2:0.1[]@1")
	see(t, "it goes later", c, with(up(0, 2, 4), 0, say(whole(1, empty))), "")
	see(t, "of two the first one waits", c, with(up(0, 3), 0, say(whole(1, batch(0, 100, 4), empty, empty, batch(0, 100, 2, "a")))), "2:0.1[]@1")
	see(t, "with transactions it goes", c, with(up(0, 3), 0, say(whole(1, batch(0, 100, 2, "a")))), "")
	see(t, "those that stay ahead of it", c, with(up(0, 3), 0, say(whole(1, batch(0, 100, 4), batch(0, 101, 2), empty))), "2:0.1[]@1")
	see(t, "behind one that goes", c, with(up(0, 24), 0, say(whole(1, batch(0, 100, 6), batch(0, 100, 2, "a"), empty, batch(0, 100, 4)))), "2:0.1[]@1 4:0.2[]@1 6:0.3[]@1")
	c.Drift = 2
	see(t, "not late yet", c, with(up(0), 0, say(whole(1, empty))), "2:0.1[]@0")
}

// A batch goes ahead of a block without one, and one is drawn behind the other.
func TestBatchesAndEmptyBlocks(t *testing.T) {
	c := plain
	c.Window = 1
	chain := with(up(0, 5, 10, 15), 1, say(whole(1, batch(0, 100, 4, "b"))))
	see(t, "a batch between", c, chain, `2:0.1[]@2 4:0.2["b"]@2 6:1.0[]@2 8:1.1[]@3 10:2.0[]@3`)
	chain = with(up(0, 5, 10), 2, say(whole(1, batch(1, 101, 6, "c"))))
	see(t, "a batch behind", c, chain, `2:0.1[]@2 4:0.2[]@2 6:1.0["c"]@2`)
}

func TestDeposits(t *testing.T) {
	long, longer := strings.Repeat("x", 64), strings.Repeat("x", 65)
	good := []string{
		coded(texts("1", "")), coded(texts("\x00", "\x00")), coded(texts("12345678", long)),
		coded(texts("1", long)), coded(texts("12345678", "")), coded(texts("1", "")),
	}
	bad := []string{
		"", "x", "none", coded(text("xy")), coded(list()), coded(texts("1")), coded(texts("1", "2", "3")),
		coded(texts("", "2")), coded(texts("123456789", "2")), coded(texts("1", longer)), coded(texts("", longer)),
		coded(list(text("1"), list())), coded(list(list(), text("1"))), coded(list(list(text("1")), text("2"))), coded(list(texts("1", "2"))),
		coded(texts("1", "2")) + "\x80", "\x00" + coded(texts("1", "2")), coded(texts("1", "2"))[:2], "\xc3\x81\x01\x80",
	}
	mixed := append([]string{good[0], bad[0], good[1]}, bad[1:10]...)
	mixed = append(mixed, good[2:]...)
	chain := up(0, 3, 6, 9)
	chain[0].Logs, chain[1].Logs, chain[2].Logs, chain[3].Logs = good[1:], mixed, bad, good
	c := api.Config{Timeout: 1, Window: 1, Step: 2, Drift: 100, Most: 1}
	chain = with(chain, 2, api.Tx{Data: dataOf(lastPiece(1, 0, "\x80"))})
	l, e := All(c, chain)
	if e != api.OK || told(l) != first+" 2:0.1[]@2 4:1.0[]@2 6:2.0[]@3" {
		t.Fatalf("P6: %s, %d", told(l), e)
	}
	for i, want := range [][]string{good[1:], nil, good, nil} {
		if !reflect.DeepEqual(l[i].Deposits, want) {
			t.Errorf("P6: block %d has the deposits %q, want %q", i, l[i].Deposits, want)
		}
	}
	// An epoch that a batch begins has its deposits too.
	chain = with(up(0, 2), 1, say(whole(1, batch(1, 101, 2, "a"), batch(1, 101, 4))))
	chain[1].Logs = good
	if l, _ := All(plain, chain); len(l) != 3 || !reflect.DeepEqual(l[1].Deposits, good) || l[2].Deposits != nil {
		t.Errorf("P6: the deposits of an epoch that a batch begins: %+v", l)
	}
}
