package source

import (
	"errors"
	"reflect"
	"strings"
	"testing"
	"unsafe"

	"tributary/api"
)

// chainOf is a chain of blocks at these times.
func chainOf(t *testing.T, times ...int) *Chain {
	t.Helper()
	c := New(api.Upper{Time: times[0]})
	for _, time := range times[1:] {
		if _, e := c.Extend(api.Upper{Time: time}); e != api.OK {
			t.Fatalf("P7: Extend by a block at %d: %d", time, e)
		}
	}
	return c
}

// ids is the Ids of a chain's blocks, by their numbers.
func ids(t *testing.T, c *Chain) []int {
	t.Helper()
	var l []int
	for {
		b, found, err := c.ByNumber(len(l))
		if err != nil {
			t.Fatalf("P8: %v", err)
		}
		if !found {
			return l
		}
		l = append(l, b.Id)
	}
}

func TestIdsAreNeverGivenTwice(t *testing.T) {
	c := chainOf(t, 5, 6, 7, 8)
	steps := []struct {
		depth, time, id int
		want            []int
	}{
		{0, 9, 5, []int{1, 2, 3, 4, 5}},
		{1, 9, 6, []int{1, 2, 3, 4, 6}},
		{4, 6, 7, []int{1, 7}},
		{0, 7, 8, []int{1, 7, 8}},
		{2, 29, 9, []int{1, 9}},
	}
	for _, s := range steps {
		if e := c.Turn(s.depth); e != api.OK {
			t.Fatalf("P7: Turn(%d): %d", s.depth, e)
		}
		if id, e := c.Extend(api.Upper{Id: 77, Time: s.time}); id != s.id || e != api.OK {
			t.Fatalf("P7: Extend behind Turn(%d): %d, %d, want %d", s.depth, id, e, s.id)
		}
		if got := ids(t, c); !reflect.DeepEqual(got, s.want) {
			t.Errorf("P7: the chain is %v, want %v", got, s.want)
		}
	}
}

func TestRefusedBlocksTakeNoId(t *testing.T) {
	c := chainOf(t, 5)
	for _, b := range []api.Upper{{Time: 5}, {Time: 30}, {Time: -1 << 63}, {Time: 1<<63 - 1}, {Time: 6, Logs: make([]string, 21)}} {
		if id, e := c.Extend(b); id != 0 || e != api.ErrBlock {
			t.Errorf("P7: Extend(%+v) = %d, %d", b, id, e)
		}
	}
	if id, e := c.Extend(api.Upper{Time: 29}); id != 2 || e != api.OK {
		t.Errorf("P7: Extend behind refused ones: %d, %d", id, e)
	}
}

func TestTheTimeBehindATurnIsThatOfTheBlockThatIsLastNow(t *testing.T) {
	c := chainOf(t, 0, 24, 48)
	if e := c.Turn(2); e != api.OK {
		t.Fatalf("P7: Turn(2): %d", e)
	}
	if id, e := c.Extend(api.Upper{Time: 49}); id != 0 || e != api.ErrBlock {
		t.Errorf("P7: 49 behind 0: %d, %d", id, e)
	}
	if id, e := c.Extend(api.Upper{Time: 1}); id != 4 || e != api.OK {
		t.Errorf("P7: 1 behind 0: %d, %d", id, e)
	}
}

func TestAnswers(t *testing.T) {
	c := New(api.Upper{Time: 3, Logs: []string{"first"}})
	c.Extend(api.Upper{Time: 4, Logs: []string{"gone"}})
	c.Turn(1)
	c.Extend(api.Upper{Time: 5, Txs: []api.Tx{{From: 1, To: 2, Data: "x"}}})
	first := api.Upper{Id: 1, Time: 3, Logs: []string{"first"}}
	second := api.Upper{Id: 3, Time: 5, Txs: []api.Tx{{From: 1, To: 2, Data: "x"}}}
	asks := []struct {
		name  string
		ask   func(int) (api.Upper, bool, error)
		which int
		want  api.Upper
	}{
		{"number", c.ByNumber, 0, first}, {"number", c.ByNumber, 1, second},
		{"number", c.ByNumber, 2, api.Upper{}}, {"number", c.ByNumber, -1, api.Upper{}}, {"number", c.ByNumber, 1 << 62, api.Upper{}},
		{"Id", c.ById, 1, first}, {"Id", c.ById, 3, second},
		{"Id", c.ById, 2, api.Upper{}}, {"Id", c.ById, 0, api.Upper{}}, {"Id", c.ById, 4, api.Upper{}}, {"Id", c.ById, -1, api.Upper{}},
	}
	for _, a := range asks {
		c.Fail(1)
		if b, found, err := a.ask(a.which); !errors.Is(err, ErrSilent) || found || !reflect.DeepEqual(b, api.Upper{}) {
			t.Errorf("P8: the block of the %s %d, from a chain that does not answer: %+v, %v, %v", a.name, a.which, b, found, err)
		}
		b, found, err := a.ask(a.which)
		if err != nil || found != (a.want.Id != 0) || !reflect.DeepEqual(b, a.want) {
			t.Errorf("P8: the block of the %s %d: %+v, %v, %v", a.name, a.which, b, found, err)
		}
	}
}

func TestSoOftenTheChainDoesNotAnswer(t *testing.T) {
	c := chainOf(t, 0, 1)
	silent := func() int {
		n := 0
		for {
			if _, _, err := c.ById(2); err == nil {
				return n
			}
			n++
		}
	}
	for times := range api.MaxFail + 1 {
		if e := c.Fail(times); e != api.OK || silent() != times {
			t.Errorf("P7: Fail(%d): %d", times, e)
		}
	}
	for _, times := range []int{-1, api.MaxFail + 1, -1 << 63, 1<<63 - 1} {
		c.Fail(3)
		if e := c.Fail(times); e != api.ErrDepth || silent() != 3 {
			t.Errorf("P7: Fail(%d): %d", times, e)
		}
	}
	for _, times := range []int{0, 2, 9} {
		c.Fail(5)
		c.Fail(times)
		if got := silent(); got != times {
			t.Errorf("P7: Fail(5) and Fail(%d): %d times", times, got)
		}
	}
}

// texts is strings over bytes that can be written to.
func texts(bytes []byte) string { return unsafe.String(&bytes[0], len(bytes)) }

func TestWhatIsHandedInIsNotKept(t *testing.T) {
	for _, extend := range []bool{false, true} {
		data, log := []byte("data"), []byte("log")
		b := api.Upper{Time: 4, Txs: []api.Tx{{Data: texts(data)}}, Logs: []string{texts(log)}}
		c := New(b)
		if extend {
			c = New(api.Upper{})
			c.Extend(b)
		}
		copy(data, "XXXX")
		copy(log, "XXX")
		b.Txs[0].To = 7
		b.Txs = append(b.Txs[:0], api.Tx{Data: "mine"})
		b.Logs[0] = "mine"
		id := 1
		if extend {
			id = 2
		}
		want := api.Upper{Id: id, Time: 4, Txs: []api.Tx{{Data: "data"}}, Logs: []string{"log"}}
		if got, _, _ := c.ById(id); !reflect.DeepEqual(got, want) {
			t.Errorf("P2: what was handed in is written over, and the chain has %+v", got)
		}
	}
}

func TestNothingIsKeptOfBlocksThatAreGone(t *testing.T) {
	c := New(api.Upper{})
	c.Extend(api.Upper{Time: 1, Logs: []string{strings.Repeat("l", 9)}})
	c.Turn(1)
	if gone := c.blocks[:2][1]; !reflect.DeepEqual(gone, api.Upper{}) {
		t.Errorf("P7: a block that is gone is kept: %+v", gone)
	}
}
