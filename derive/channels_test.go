package derive

import (
	"fmt"
	"reflect"
	"strings"
	"testing"
	"unsafe"

	"tributary/api"
	"tributary/code"
)

const (
	justA    = `2:0.1["a"]@1`
	justB    = `2:0.1["b"]@1`
	aBehindB = `2:0.1["b"]@1 4:0.2["a"]@1`
)

// seeFrames looks at what comes of these frames, each in a transaction of its
// own of block 1, and all in one.
func seeFrames(t *testing.T, what string, c api.Config, want string, frames ...api.Frame) {
	t.Helper()
	var txs []api.Tx
	for _, f := range frames {
		txs = append(txs, say(f))
	}
	see(t, what, c, with(up(0, 4), 1, txs...), want)
	see(t, what+", in one transaction", c, with(up(0, 4), 1, say(frames...)), want)
}

func TestFramesOfAChannel(t *testing.T) {
	q := code.Squeeze(batch(0, 100, 2, "a"))
	a, b, rest := q[:3], q[3:5], q[5:]
	seeFrames(t, "one", plain, justA, lastPiece(1, 0, q))
	seeFrames(t, "three", plain, justA, piece(1, 0, a), piece(1, 1, b), lastPiece(1, 2, rest))
	seeFrames(t, "turned round", plain, justA, piece(1, 0, a), lastPiece(1, 2, rest), piece(1, 1, b))
	seeFrames(t, "empty ones", plain, justA, piece(1, 0, ""), piece(1, 1, q), piece(1, 2, ""), lastPiece(1, 3, ""))
	seeFrames(t, "not the last one", plain, "", piece(1, 0, q))
	seeFrames(t, "a gap", plain, "", piece(1, 0, a+b), lastPiece(1, 2, rest))
	seeFrames(t, "no first one", plain, "", piece(1, 1, b), lastPiece(1, 2, rest))
	seeFrames(t, "the first one late", plain, "", piece(1, 1, b), lastPiece(1, 2, rest), piece(1, 0, a))
	seeFrames(t, "another channel's", plain, "", piece(1, 0, a), piece(2, 1, b), lastPiece(1, 2, rest))
	seeFrames(t, "two channels mixed", plain, justA, piece(1, 0, a), piece(1<<24+1, 0, "x"), piece(1, 1, b), piece(1<<24+1, 1, "x"), lastPiece(1, 2, rest))
	seeFrames(t, "behind one that was read", plain, justA, lastPiece(1, 0, q), lastPiece(1, 1, q))
}

func TestFramesThatAreNothing(t *testing.T) {
	q := code.Squeeze(batch(0, 100, 2, "a"))
	a, b, rest := q[:3], q[3:5], q[5:]
	seeFrames(t, "twice", plain, justA, piece(1, 0, a), piece(1, 1, b), piece(1, 1, "x"), lastPiece(1, 2, rest))
	seeFrames(t, "twice, then the last one", plain, "", piece(1, 0, a), piece(1, 1, b), lastPiece(1, 1, b+rest))
	seeFrames(t, "twice the last one", plain, justA, piece(1, 0, a), lastPiece(1, 2, rest), lastPiece(1, 2, "x"), piece(1, 1, b))
	seeFrames(t, "the last one's number again", plain, justA, piece(1, 0, a), lastPiece(1, 2, rest), piece(1, 2, "x"), piece(1, 1, b))
	seeFrames(t, "a second last one ahead", plain, justA, piece(1, 0, a), lastPiece(1, 2, rest), lastPiece(1, 1, "x"), piece(1, 1, b))
	seeFrames(t, "a second last one behind", plain, justA, piece(1, 0, a), lastPiece(1, 2, rest), lastPiece(1, 3, "x"), piece(1, 1, b))
	seeFrames(t, "behind the last one", plain, justA, piece(1, 0, a), lastPiece(1, 2, rest), piece(1, 3, "x"), piece(1, 65535, "x"), piece(1, 1, b))
	seeFrames(t, "those behind the last one go", plain, justA, piece(1, 0, a), piece(1, 3, "x"), piece(1, 65535, "x"), lastPiece(1, 2, rest), piece(1, 1, b))
	seeFrames(t, "a last one that makes it shorter", plain, justA, piece(1, 0, q), piece(1, 1, "\x80"), piece(1, 2, "\x80"), lastPiece(1, 1, ""), lastPiece(1, 3, ""))
	seeFrames(t, "the last one at 0, others behind", plain, justA, lastPiece(1, 0, q), piece(1, 1, "x"), lastPiece(1, 2, "x"))
}

func TestTransactionsThatAreNothing(t *testing.T) {
	good := say(whole(1, batch(0, 100, 2, "a")))
	see(t, "the batcher's", plain, with(up(0, 4), 1, good), justA)
	for _, x := range []api.Tx{
		{From: 7, To: 9, Data: good.Data}, {From: 8, To: 8, Data: good.Data}, {From: 9, To: 8, Data: good.Data}, {Data: good.Data},
		{From: 8, To: 9, Data: good.Data[1:]}, {From: 8, To: 9, Data: "\x01" + good.Data[1:]}, {From: 8, To: 9, Data: good.Data + "\x00"},
		{From: 8, To: 9, Data: good.Data[:len(good.Data)-1]}, {From: 8, To: 9, Data: good.Data[:len(good.Data)-1] + "\x02"}, {From: 8, To: 9},
	} {
		see(t, fmt.Sprintf("%x", x), plain, with(up(0, 4), 1, x), "")
		see(t, fmt.Sprintf("%x and a good one", x), plain, with(up(0, 4), 1, x, good, x), justA)
	}
}

func TestOrderOfChannels(t *testing.T) {
	a, b := code.Squeeze(batch(0, 100, 2, "a")), code.Squeeze(batch(0, 100, 2, "b"))
	behind := code.Squeeze(batch(0, 100, 4, "a"))
	seeFrames(t, "as they were opened", plain, justA, lastPiece(2, 0, a), lastPiece(1, 0, b))
	seeFrames(t, "not as they were whole", plain, justA, piece(2, 0, a[:3]), lastPiece(1, 0, b), lastPiece(2, 1, a[3:]))
	seeFrames(t, "one that is not whole first", plain, "", piece(2, 0, ""), lastPiece(1, 0, a))
	seeFrames(t, "one that is not whole behind", plain, justA, lastPiece(1, 0, a), piece(2, 0, ""))
	seeFrames(t, "one that is not whole between", plain, justB, lastPiece(1, 0, b), piece(2, 0, ""), lastPiece(3, 0, behind))
	seeFrames(t, "opened again", plain, justA, lastPiece(1, 0, b), lastPiece(1, 0, a))
	seeFrames(t, "opened again, the same", plain, justA, piece(1, 0, a[:3]), piece(1, 0, a[:3]), lastPiece(1, 1, a[3:]))
	seeFrames(t, "opened again, what was there goes", plain, "", piece(1, 0, a[:3]), lastPiece(1, 1, a[3:]), piece(1, 0, a[:3]))
	seeFrames(t, "opened again, no last one any more", plain, justA, lastPiece(1, 0, ""), piece(1, 0, a[:3]), piece(1, 1, a[3:5]), lastPiece(1, 2, a[5:]))
	seeFrames(t, "opened again behind another", plain, justB, piece(1, 0, a[:3]), lastPiece(2, 0, b), lastPiece(1, 0, a))
	seeFrames(t, "opened again lets another go ahead", plain, justB, piece(1, 0, "x"), lastPiece(2, 0, b), piece(1, 0, "x"))
	seeFrames(t, "two read with one block", plain, aBehindB, lastPiece(1, 0, b), lastPiece(2, 0, behind))
}

// A channel that was read is gone: its name may be had again, with the next block too.
func TestNamesAgain(t *testing.T) {
	chain := with(up(0, 4, 8), 1, say(whole(1, batch(0, 100, 2, "a"))))
	chain = with(chain, 2, say(lastPiece(1, 1, "x")), say(whole(1, batch(0, 100, 4, "b"))))
	see(t, "a name again", plain, chain, `2:0.1["a"]@1 4:0.2["b"]@2`)
}

func TestChannelThatWaits(t *testing.T) {
	chain := with(up(0, 4, 8), 1, say(piece(2, 0, ""), whole(1, batch(0, 100, 2, "a"))))
	see(t, "until the one ahead is whole", plain, with(chain, 2, say(lastPiece(2, 1, ""))), `2:0.1["a"]@2`)
	// Read late, a batch may be behind its window: with block 3 the one ahead times out.
	c := plain
	c.Timeout, c.Window = 1, 3
	chain = with(up(0, 4, 8, 12), 1, say(piece(2, 0, "")))
	chain = with(chain, 2, say(whole(1, batch(0, 100, 2, "a"))))
	see(t, "until the one ahead times out", c, chain, `2:0.1["a"]@3`)
	c.Window = 2
	see(t, "too long", c, chain, `2:0.1[]@3 4:1.0[]@3`)
}

func TestTimeout(t *testing.T) {
	q := code.Squeeze(batch(1, 101, 2, "a"))
	for timeout := 1; timeout <= 8; timeout++ {
		c := plain
		c.Timeout, c.Window = timeout, 8
		for n := 1; n <= timeout+1; n++ {
			chain := with(up(0, 1, 2, 3, 4, 5, 6, 7, 8, 9), 0, say(piece(1, 0, q[:3])))
			chain = with(chain, n, say(lastPiece(1, 1, q[3:])))
			if has(t, c, chain, "a") != (n <= timeout) {
				t.Errorf("P6: Timeout %d: the last frame with block %d", timeout, n)
			}
		}
	}
}

// What counts is when a channel was opened last, not when its frames came.
func TestTimeoutOfAChannelOpenedAgain(t *testing.T) {
	q := code.Squeeze(batch(0, 100, 2, "a"))
	c := plain
	c.Window = 8
	chain := with(up(0, 1, 2, 3, 4), 0, say(piece(1, 0, q[:2])))
	chain = with(chain, 2, say(piece(1, 1, q[2:3])))
	see(t, "opened once", c, with(chain, 3, say(lastPiece(1, 2, q[3:]))), "")
	chain = with(up(0, 1, 2, 3, 4), 0, say(piece(1, 0, q[:2])))
	chain = with(chain, 2, say(piece(1, 0, q[:2])))
	see(t, "opened again", c, with(chain, 4, say(lastPiece(1, 1, q[2:]))), `2:0.1["a"]@4`)
	chain = with(up(0, 1, 2, 3, 4), 0, say(piece(1, 0, q[:2])))
	chain = with(chain, 3, say(piece(1, 0, q[:2]), lastPiece(1, 1, q[2:])))
	see(t, "opened again when it has gone", c, chain, `2:0.1["a"]@3`)
}

func TestMost(t *testing.T) {
	q := code.Squeeze(batch(0, 100, 2, "a"))
	c := plain
	c.Most = len(q)
	seeFrames(t, "just Most", c, justA, lastPiece(1, 0, q))
	seeFrames(t, "just Most, in parts", c, justA, piece(1, 0, q[:3]), lastPiece(1, 2, q[5:]), piece(1, 1, q[3:5]))
	seeFrames(t, "more than Most", c, "", lastPiece(1, 0, q+"\x80"))
	seeFrames(t, "more than Most, in parts", c, "", piece(1, 0, q), lastPiece(1, 1, "\x80"))
	seeFrames(t, "more than Most, then the last one", c, "", piece(1, 0, q), piece(1, 1, "x"), lastPiece(1, 1, ""))
	seeFrames(t, "just Most of what is not behind the last one", c, justA, piece(1, 0, q[:3]), piece(1, 7, q[3:]), lastPiece(1, 1, q[3:]))
	seeFrames(t, "what has gone counts no more", c, justA, piece(1, 0, q[:3]), piece(1, 7, q[3:]), lastPiece(1, 2, q[5:]), piece(1, 1, q[3:5]))
	seeFrames(t, "frames that are nothing do not count", c, justA, piece(1, 0, q[:3]), piece(1, 0, q[:3]), piece(1, 1, q[3:5]), piece(1, 1, q), lastPiece(1, 2, q[5:]), piece(1, 3, q))
	seeFrames(t, "each channel has its own", c, aBehindB, lastPiece(1, 0, code.Squeeze(batch(0, 100, 2, "b"))), lastPiece(2, 0, code.Squeeze(batch(0, 100, 4, "a"))))
}

func TestSpoiltChannel(t *testing.T) {
	q, other := code.Squeeze(batch(0, 100, 2, "a")), code.Squeeze(batch(0, 100, 2, "b"))
	c := plain
	c.Most = len(q)
	seeFrames(t, "it holds those behind it up", c, "", piece(1, 0, q+"x"), lastPiece(2, 0, other))
	seeFrames(t, "a last one that spoils", c, "", piece(1, 0, q), lastPiece(1, 1, "x"), lastPiece(2, 0, other))
	seeFrames(t, "nothing joins it", c, "", piece(1, 0, q+"x"), piece(1, 1, ""), lastPiece(1, 2, ""), lastPiece(2, 0, other))
	seeFrames(t, "it may be opened again", c, justA, piece(1, 0, q+"x"), lastPiece(1, 0, q))
	seeFrames(t, "opened again, behind the others", c, justB, piece(1, 0, q+"x"), lastPiece(2, 0, other), lastPiece(1, 0, q))
	c.Window = 8
	chain := with(up(0, 4, 8, 12, 16), 1, say(piece(1, 0, q+"x"), lastPiece(2, 0, other)), say(lastPiece(3, 0, q)))
	see(t, "it times out", c, chain[:4], "")
	see(t, "it times out, and so do those that were opened with it", c, chain, "")
	chain = with(up(0, 4, 8, 12, 16), 1, say(piece(1, 0, q+"x")))
	chain = with(chain, 2, say(lastPiece(2, 0, other)))
	see(t, "it times out, and lets others go", c, chain, `2:0.1["b"]@4`)
}

func TestGreatestMost(t *testing.T) {
	q := code.Squeeze(batch(0, 100, 2, "a")) + "\x80"
	c := plain
	c.Most = 4096
	for size, want := range map[int]bool{4096: true, 4097: false} {
		s := q + strings.Repeat("x", size-len(q))
		chain := with(up(0, 4), 1, say(piece(1, 0, s[:1900])), say(piece(1, 1, s[1900:3800])), say(lastPiece(1, 2, s[3800:])))
		if has(t, c, chain, "a") != want {
			t.Errorf("P6: Most 4096, and a channel of %d bytes", size)
		}
	}
	c.Most = 1
	seeFrames(t, "Most 1", c, "", lastPiece(1, 0, "\x80"), piece(2, 0, "\x80\x80"), lastPiece(3, 0, ""))
}

// The frames of a channel may stand in as many transactions as there may be, in any order.
func TestManyTransactions(t *testing.T) {
	q := code.Squeeze(batch(0, 100, 2, "a", "bcdefghijklmnopqrstuvwxyz"))
	var txs []api.Tx
	for i := range 20 {
		f := piece(1, uint16(i), q[i:i+1])
		if i == 19 {
			f = lastPiece(1, 19, q[19:])
		}
		txs = append(txs, say(f))
	}
	for i := 1; i < 19; i += 3 {
		txs[i], txs[19-i] = txs[19-i], txs[i]
	}
	for range 200 {
		see(t, "20 transactions", plain, with(up(0, 4), 1, txs...), `2:0.1["a" "bcdefghijklmnopqrstu"]@1`)
	}
	// The batches of the first transactions do not fit; of the others the first one is drawn.
	for i := range 20 {
		var txs []api.Tx
		for k := range 20 {
			id := 100
			if k < i {
				id = 99
			}
			txs = append(txs, say(whole(uint32(20-k), batch(0, id, 2, fmt.Sprint(k)))))
		}
		see(t, "the first that fits", plain, with(up(0, 4), 1, txs...), fmt.Sprintf("2:0.1[%q]@1", fmt.Sprint(i)))
	}
}

func TestGreatestNumberOfAFrame(t *testing.T) {
	q := code.Squeeze(batch(0, 100, 2, "a"))
	c := plain
	c.Timeout, c.Window, c.Drift = 8, 8, 100
	var frames []api.Frame
	for i := range 65535 {
		frames = append(frames, piece(1, uint16(i), ""))
	}
	frames[0].Data = q
	if chain := spreadOut(frames[:20000], lastPiece(1, 20000, "")); !has(t, c, chain, "a") {
		t.Errorf("P6: a channel of 20001 frames is not read")
	}
	if chain := spreadOut(frames[:20000], lastPiece(1, 65535, "")); has(t, c, chain, "a") {
		t.Errorf("P6: a channel of which frames are lacking is read")
	}
}

// spreadOut is a chain that has these frames in as few blocks as can be, and
// then this one.
func spreadOut(frames []api.Frame, last api.Frame) []api.Upper {
	chain := up(0, 1, 2, 3, 4, 5, 6, 7, 8)
	n := 0
	for len(frames) > 0 {
		if len(chain[n].Txs) == api.MaxTxs {
			n++
		}
		size := min(200, len(frames))
		if n == 0 && len(chain[0].Txs) == 0 {
			size = 1
		}
		chain = with(chain, n, say(frames[:size]...))
		frames = frames[size:]
	}
	return with(chain, n+1, say(last))
}

func TestSpreadingOut(t *testing.T) {
	good := batch(0, 100, 2, "a")
	q := code.Squeeze(good)
	seeFrames(t, "up to a piece that is none", plain, justA, lastPiece(1, 0, q+"\x80"+q))
	seeFrames(t, "a piece that is cut short", plain, "", lastPiece(1, 0, q[:len(q)-1]))
	seeFrames(t, "two squeezed parts", plain, aBehindB, lastPiece(1, 0, code.Squeeze(batch(0, 100, 2, "b"))+code.Squeeze(batch(0, 100, 4, "a"))))
	for over, want := range []string{justA, ""} {
		// The filler's epoch is to come, so that it is nothing.
		filler := filling(api.MaxSpread - len(good) + over)
		seeFrames(t, fmt.Sprint("over by ", over), plain, want, lastPiece(1, 0, code.Squeeze(filler+good)))
	}
	// What is cut off within a piece leaves the bytes of the piece ahead of the cut.
	all := batch(0, 100, 2, strings.Repeat("x", 4075))
	for len(all) < api.MaxSpread {
		all = batch(0, 100, 2, strings.Repeat("x", 4075+api.MaxSpread-len(all)))
	}
	if len(all) != api.MaxSpread {
		t.Fatalf("a batch of %d bytes", len(all))
	}
	seeFrames(t, "cut off within a piece", plain, `2:0.1["xxxxxxxxxxxxxxxxxxxx"]@1`, lastPiece(1, 0, code.Squeeze(all+strings.Repeat("x", 100))))
}

// filling is a batch of so many bytes, of an epoch that never comes.
func filling(size int) string {
	n := size
	for {
		s := batch(1000, 0, 0, strings.Repeat("x", n))
		if len(s) == size {
			return s
		}
		n -= len(s) - size
	}
}

func TestReadingUpToTheFirstThatIsNone(t *testing.T) {
	good, behind := batch(0, 100, 2, "b"), batch(0, 100, 4, "a")
	nine, eight := strings.Repeat("\x01", 9), "\x3f"+strings.Repeat("\xff", 7)
	parts := func(kids ...api.Item) string { return versioned(0, list(kids...)) }
	for _, s := range []string{
		// Batches, but of no use here.
		batch(0, 100, 0), batch(0, 0, 2), batch(1, 0, 2), batch(1000, 0, 2),
		parts(text(eight), text(eight), text(eight), texts("x")), parts(num(0), num(0), num(0), texts("", strings.Repeat("y", 60), "\x00")),
	} {
		seeFrames(t, fmt.Sprintf("behind the batch %x", s), plain, aBehindB, whole(1, good, s, behind))
	}
	for _, s := range []string{
		"\x80", "\x00", "\x01", "\xc0", coded(texts("a")), coded(text("a")), coded(list(num(0), num(100), num(2), texts())), "\xb8\x01a", "\x81a", "\xff",
		versioned(1, list(num(0), num(100), num(4), texts("x"))), versioned(255, list(num(0), num(100), num(4), texts("x"))),
		parts(), parts(num(0), num(100), num(4)), parts(num(0), num(100), num(4), texts(), texts()), parts(num(0), num(100), num(4), texts(), num(0)),
		parts(num(0), num(100), num(4), num(0)), parts(num(0), num(100), num(4), text("abc")), parts(num(0), num(100), num(4), list(list())),
		parts(num(0), num(100), num(4), list(text("x"), list())), parts(list(), num(100), num(4), texts()), parts(num(0), list(), num(4), texts()),
		parts(num(0), num(100), list(), texts()), parts(texts(), num(100), num(4), num(0)),
		parts(text("\x00"), num(100), num(4), texts()), parts(num(0), text("\x00\x64"), num(4), texts()), parts(num(0), num(100), text("\x00\x04"), texts()),
		parts(text(nine), num(100), num(4), texts()), parts(num(0), text(nine), num(4), texts()), parts(num(0), num(100), text(nine), texts()),
		parts(num(1<<62), num(100), num(4), texts()), parts(num(0), num(1<<62), num(4), texts()), parts(num(0), num(100), num(1<<62), texts()),
		parts(text(strings.Repeat("\xff", 8)), num(100), num(4), texts()), parts(num(0), num(100), text("\x80"+strings.Repeat("\x00", 7)), texts()),
		coded(text("\x00" + coded(text("abcd")))), coded(text("\x00" + coded(list(num(0), num(100), num(4), texts())) + "\x80")), coded(text("\x00\xc4\x80\x80\x80")),
	} {
		seeFrames(t, fmt.Sprintf("behind %x", s), plain, justB, whole(1, good, s, behind))
		seeFrames(t, fmt.Sprintf("%x alone", s), plain, "", whole(1, s, good, behind))
		// Reading ends for this channel, not for the next.
		seeFrames(t, fmt.Sprintf("another channel behind %x", s), plain, aBehindB, whole(1, good, s), whole(2, behind))
	}
}

// deepCopy shares no lists with a chain.
func deepCopy(chain []api.Upper) []api.Upper {
	l := append([]api.Upper(nil), chain...)
	for i := range l {
		l[i].Txs = append([]api.Tx(nil), l[i].Txs...)
		l[i].Logs = append([]string(nil), l[i].Logs...)
	}
	return l
}

// spoil changes all memory that the lists within a lower block reach, behind
// their ends too.
func spoil(x api.Lower) {
	for _, l := range [][]string{x.Txs[:cap(x.Txs)], x.Deposits[:cap(x.Deposits)]} {
		for i := range l {
			l[i] = "spoilt"
		}
	}
}

func TestAllKeepsAndChangesNothing(t *testing.T) {
	for seed := range int64(40) {
		c, chain, lowers := written(3e6+seed, 20, map[string]int{})
		want := lowers[len(lowers)-1]
		before := deepCopy(chain)
		one, _ := All(c, chain)
		two, _ := All(c, chain)
		if !reflect.DeepEqual(deepCopy(chain), before) {
			t.Fatalf("P2: seed %d: All changed its chain", seed)
		}
		for i, x := range one {
			spoil(x)
			one[i] = want[i]
			if !reflect.DeepEqual(one, want) {
				t.Fatalf("P2: seed %d: the lists of block %d are those of others", seed, i)
			}
		}
		one = one[:cap(one)]
		clear(one)
		for i := range chain {
			clear(chain[i].Txs)
			clear(chain[i].Logs)
		}
		clear(chain)
		if !reflect.DeepEqual(two, want) {
			t.Fatalf("P2: seed %d: what All gave is not fresh", seed)
		}
	}
}

// loose is a text whose bytes can be changed later on, and how.
func loose(s string) (string, func()) {
	raw := []byte(s)
	return unsafe.String(unsafe.SliceData(raw), len(raw)), func() {
		for i := range raw {
			raw[i] = 0xee
		}
	}
}

func TestTextsOfAllAreFresh(t *testing.T) {
	deposit, changeDeposit := loose(coded(texts("name", "a deposit")))
	data, changeData := loose(dataOf(whole(1, batch(1, 101, 2, "a transaction"))))
	chain := with(up(0, 2), 1, api.Tx{From: 8, To: 9, Data: data})
	chain[1].Logs = []string{deposit}
	l, e := All(plain, chain)
	if data != dataOf(whole(1, batch(1, 101, 2, "a transaction"))) || deposit != coded(texts("name", "a deposit")) {
		t.Errorf("P2: All changed its texts")
	}
	changeDeposit()
	changeData()
	want := api.Lower{Number: 1, Time: 2, Epoch: 1, Id: 101, Txs: []string{"a transaction"}, Deposits: []string{coded(texts("name", "a deposit"))}, At: 1}
	if e != api.OK || len(l) != 2 || !reflect.DeepEqual(l[1], want) {
		t.Errorf("P2: the texts that All gave are not fresh: %+v, %d", l, e)
	}
}
