package node

import (
	"fmt"
	"reflect"
	"slices"
	"testing"

	"tributary/api"
	"tributary/derive"
)

// watched is a node, and beside it what its upper chain is and was. It holds
// every answer of the node against the promises.
type watched struct {
	t      *testing.T
	what   string
	node   *Node
	config api.Config
	chain  []api.Upper   // as it is
	since  [][]api.Upper // as it was when a Step told Idle or Back last, and at each change behind that
	lastId int
	silent int
	reset  bool
	log    []api.Lower
	all    map[string][]api.Lower // what a chain gives, by its Ids
	met    map[string]int
}

// watch makes a node over a chain of these blocks.
func watch(t *testing.T, c api.Config, blocks ...api.Upper) *watched {
	t.Helper()
	n, e := New(c, blocks[0])
	if n == nil || e != api.OK {
		t.Fatalf("P7: New(%+v, %+v) = %v, %d", c, blocks[0], n, e)
	}
	w := &watched{t: t, node: n, config: c, lastId: 1, all: map[string][]api.Lower{}, met: map[string]int{}}
	first := blocks[0]
	first.Id = 1
	w.chain = []api.Upper{first}
	w.since = [][]api.Upper{w.chain}
	w.log = n.Log()
	if want := w.gives(w.chain)[:1]; !reflect.DeepEqual(w.log, want) {
		t.Fatalf("P7: the log of a new node is %s, want %s", told(w.log), told(want))
	}
	for _, b := range blocks[1:] {
		w.extend(b)
	}
	return w
}

func (w *watched) fatalf(form string, args ...any) {
	w.t.Helper()
	w.t.Fatalf("%s: %s", w.what, fmt.Sprintf(form, args...))
}

// gives is what an upper chain gives.
func (w *watched) gives(chain []api.Upper) []api.Lower {
	w.t.Helper()
	key := fmt.Sprint(idsOf(chain))
	if l, ok := w.all[key]; ok {
		return l
	}
	l, e := derive.All(w.config, chain)
	if e != api.OK {
		w.fatalf("P6: All of %v: %d", chain, e)
	}
	w.all[key] = l
	return l
}

func idsOf(chain []api.Upper) []int {
	var l []int
	for _, b := range chain {
		l = append(l, b.Id)
	}
	return l
}

// changed notes that the upper chain is this one now.
func (w *watched) changed(chain []api.Upper) {
	w.chain = chain
	w.since = append(w.since, chain)
}

func (w *watched) extend(b api.Upper) {
	w.t.Helper()
	id, e := w.node.Extend(b)
	if id != w.lastId+1 || e != api.OK {
		w.fatalf("P7: Extend: %d, %d, want %d", id, e, w.lastId+1)
	}
	w.lastId = id
	b.Id = id
	w.changed(append(slices.Clone(w.chain), b))
	w.unchanged("Extend")
}

func (w *watched) turn(depth int) {
	w.t.Helper()
	if e := w.node.Turn(depth); e != api.OK {
		w.fatalf("P7: Turn(%d): %d", depth, e)
	}
	w.changed(w.chain[:len(w.chain)-depth])
	w.unchanged("Turn")
}

func (w *watched) fail(times int) {
	w.t.Helper()
	if e := w.node.Fail(times); e != api.OK {
		w.fatalf("P7: Fail(%d): %d", times, e)
	}
	w.silent = times
	w.unchanged("Fail")
}

func (w *watched) resetNow() {
	w.t.Helper()
	w.node.Reset()
	w.reset = true
	w.unchanged("Reset")
}

// unchanged holds the log against what it was.
func (w *watched) unchanged(by string) {
	w.t.Helper()
	if l := w.node.Log(); !reflect.DeepEqual(l, w.log) {
		w.fatalf("P8: by %s %s becomes %s", by, told(w.log), told(l))
	}
}

// step is a Step, of which it tells what that told.
func (w *watched) step() uint8 {
	w.t.Helper()
	s := w.node.Step()
	if (s == api.Failed) != (w.silent > 0) {
		w.fatalf("P8: Step = %d, of a chain that will not answer %d times", s, w.silent)
	}
	if s == api.Failed {
		w.silent--
		w.meet("failed")
		w.unchanged("a Step that failed")
		return s
	}
	before := w.log
	w.log = w.node.Log()
	switch s {
	case api.Going:
		w.meet("going")
	case api.Idle:
		w.checkIdle()
	case api.Back:
		w.checkBack(before)
	default:
		w.fatalf("P8: Step = %d", s)
	}
	if w.reset && s != api.Back {
		w.fatalf("P8: Reset, and then %d", s)
	}
	w.reset = false
	if s != api.Back && (len(w.log) < len(before) || !reflect.DeepEqual(w.log[:len(before)], before)) {
		w.fatalf("P10: with %d %s becomes %s", s, told(before), told(w.log))
	}
	if s != api.Going {
		w.since = [][]api.Upper{w.chain}
	}
	w.checkBetween()
	return s
}

func (w *watched) checkIdle() {
	w.t.Helper()
	w.meet("idle")
	if want := w.gives(w.chain); !reflect.DeepEqual(w.log, want) {
		w.fatalf("P9: idle over %v: %s, want %s", idsOf(w.chain), told(w.log), told(want))
	}
}

// checkBack holds a log that has gone back against how far it must.
func (w *watched) checkBack(before []api.Lower) {
	w.t.Helper()
	if !w.reset && !w.turned() {
		w.fatalf("P8: back, without Reset or another chain")
	}
	now := w.gives(w.chain)
	must := 0
	for must < min(len(before), len(now)) && reflect.DeepEqual(before[must], now[must]) {
		must++
	}
	if !reflect.DeepEqual(w.log, before[:must]) {
		w.fatalf("P8: back over %v from %s to %s, want %d blocks", idsOf(w.chain), told(before), told(w.log), must)
	}
	switch {
	case must == len(before):
		w.meet("back by nothing")
	case must == 1:
		w.meet("back to the first block")
	default:
		w.meet("back to the midst")
	}
	if w.reset && w.turned() {
		w.meet("back by a Reset of a chain that turned")
	}
}

// turned tells whether some chain that there was is not the beginning of the
// one that is.
func (w *watched) turned() bool {
	now := idsOf(w.chain)
	return slices.ContainsFunc(w.since, func(chain []api.Upper) bool {
		return len(chain) > len(now) || !slices.Equal(idsOf(chain), now[:len(chain)])
	})
}

func (w *watched) checkBetween() {
	w.t.Helper()
	for _, chain := range w.since {
		if all := w.gives(chain); len(all) >= len(w.log) && reflect.DeepEqual(all[:len(w.log)], w.log) {
			return
		}
	}
	w.fatalf("P10: %s is the beginning of nothing that the chain was", told(w.log))
}

// idle goes on until a Step tells Idle, and then by two more.
func (w *watched) idle() {
	w.t.Helper()
	steps := 0
	for w.step() != api.Idle {
		if steps++; steps > api.MaxSteps+api.MaxFail {
			w.fatalf("P11: %d Steps, and not idle", steps)
		}
	}
	for range 2 {
		if s := w.step(); s != api.Idle {
			w.fatalf("P11: idle, and then %d", s)
		}
	}
}

// steps are Steps that tell this.
func (w *watched) steps(want ...uint8) {
	w.t.Helper()
	for i, s := range want {
		if got := w.step(); got != s {
			w.fatalf("P8: Step %d of %v tells %d", i, want, got)
		}
	}
}

func (w *watched) meet(what string) { w.met[what]++ }

// told is lower blocks as a test tells them.
func told(l []api.Lower) string {
	s := fmt.Sprint(len(l), ":")
	for _, x := range l {
		s += fmt.Sprintf(" %d:%d(%d).%d%.20q%.20q@%d", x.Time, x.Epoch, x.Id, x.Seq, x.Txs, x.Deposits, x.At)
	}
	return s
}
