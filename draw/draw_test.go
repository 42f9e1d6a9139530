package draw

import (
	"reflect"
	"testing"

	"tributary/api"
	"tributary/code"
)

var config = api.Config{Timeout: 2, Window: 2, Drift: 10, Step: 2, Most: 1000}

// hello is squeezed bytes of so many batches, of the times 0, 1 and so on.
func hello(n int) string {
	s := ""
	for i := range n {
		time := api.Item{}
		if i > 0 {
			time.Bytes = string([]byte{byte(i)})
		}
		b, _ := code.Encode(api.Item{List: true, Kids: []api.Item{{}, {}, time, {List: true}}})
		c, _ := code.Encode(api.Item{Bytes: "\x00" + b})
		s += c
	}
	return code.Squeeze(s)
}

func TestNothingIsDrawnOfNoBlocks(t *testing.T) {
	for l := range New(config).Drawn() {
		t.Errorf("P6: %+v is drawn of no blocks", l)
	}
}

func TestBlocksComeOneByOne(t *testing.T) {
	c := New(config)
	var l []api.Lower
	for n := range 5 {
		c.Take(api.Upper{Id: n, Time: 3 * n})
		for x := range c.Drawn() {
			l = append(l, x)
		}
		for x := range c.Drawn() {
			t.Errorf("P6: with block %d %+v comes behind the last one", n, x)
		}
	}
	want := []api.Lower{
		{}, {Number: 1, Time: 2, Seq: 1, At: 3}, {Number: 2, Time: 4, Epoch: 1, Id: 1, At: 3},
		{Number: 3, Time: 6, Epoch: 2, Id: 2, At: 4},
	}
	if !reflect.DeepEqual(l, want) {
		t.Errorf("P6: %+v", l)
	}
}

func TestBlocksThatNobodyAskedForComeTheNextTime(t *testing.T) {
	c := New(config)
	for n := range 9 {
		c.Take(api.Upper{Time: 3 * n})
	}
	drawn := 0
	for more := true; more; {
		more = false
		for l := range c.Drawn() {
			if l.Number != drawn {
				t.Errorf("P6: %d blocks have come, and then %+v", drawn, l)
			}
			drawn++
			more = true
			if drawn%2 == 0 {
				break
			}
		}
	}
	if drawn != 10 {
		t.Errorf("P6: %d blocks have come", drawn)
	}
}

func TestWholeChannelsAreTakenAsTheyAreAskedFor(t *testing.T) {
	s := channels{named: map[uint32]*channel{}}
	for name := range uint32(3) {
		s.take(api.Frame{Channel: name, Data: string([]byte{'a' + byte(name)}), Last: true}, 0, 10)
	}
	for bytes := range s.whole() {
		if bytes != "a" {
			t.Errorf("P6: the first channel is %q", bytes)
		}
		break
	}
	var rest []string
	for bytes := range s.whole() {
		rest = append(rest, bytes)
	}
	if !reflect.DeepEqual(rest, []string{"b", "c"}) || len(s.named) != 0 || len(s.order) != 0 {
		t.Errorf("P6: behind the first channel come %q, and there are still %d", rest, len(s.named))
	}
}

func TestChannelsThatHaveGoneAreNotKept(t *testing.T) {
	s := channels{named: map[uint32]*channel{}}
	for n := range 100 {
		s.expire(n - 2)
		s.take(api.Frame{Channel: 1}, n, 10)
		s.take(api.Frame{Channel: 1}, n, 10)
		s.take(api.Frame{Channel: 10 + uint32(n)}, n, 10)
	}
	if len(s.named) != 4 || len(s.order) > 6 {
		t.Errorf("P6: %d channels are named, %d are kept", len(s.named), len(s.order))
	}
}

func TestBatchesStopWhenNobodyAsks(t *testing.T) {
	for most := 1; most <= 4; most++ {
		n := 0
		for b := range eachBatch(hello(4)) {
			if b.time != n {
				t.Errorf("P6: batch %d is %+v", n, b)
			}
			n++
			if n == most {
				break
			}
		}
		if n != most {
			t.Errorf("P6: %d batches of %d came", n, most)
		}
	}
}
