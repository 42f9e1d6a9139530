package draw

import (
	"strings"
	"sync"

	"tributary/api"
	"tributary/code"
	"tributary/frame"
)

const (
	maxName    = 8  // the longest first string of a deposit
	maxDeposit = 64 // the longest second one
)

// block is what lower blocks take from an upper one.
type block struct {
	id, time int
	deposits []string
}

// blockOf keeps of an upper block what will be asked for.
func blockOf(b api.Upper) block {
	return block{id: b.Id, time: b.Time, deposits: depositsOf(b.Logs)}
}

// depositsOf is those logs that are deposits.
func depositsOf(logs []string) []string {
	var l []string
	for _, s := range logs {
		if isDeposit(s) {
			// A clone, since what comes out shares no memory with what came in.
			l = append(l, strings.Clone(s))
		}
	}
	return l
}

func isDeposit(log string) bool {
	i, e := code.Decode(log)
	if e != api.OK {
		return false
	}
	l, ok := stringsOf(i)
	return ok && len(l) == 2 && l[0] != "" && len(l[0]) <= maxName && len(l[1]) <= maxDeposit
}

// framesOf is the frames of each transaction of a block, read by a goroutine
// of its own.
func framesOf(c api.Config, txs []api.Tx) [][]api.Frame {
	found := make([][]api.Frame, len(txs))
	var readers sync.WaitGroup
	for i, x := range txs {
		readers.Add(1)
		go func() {
			defer readers.Done()
			found[i] = read(c, x)
		}()
	}
	readers.Wait()
	return found
}

// read is the frames of a transaction, none if it is not the batcher's.
func read(c api.Config, x api.Tx) []api.Frame {
	if x.To != c.Inbox || x.From != c.Batcher {
		return nil
	}
	frames, _ := frame.All(x.Data)
	return frames
}
