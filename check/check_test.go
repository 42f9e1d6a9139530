package check_test

import (
	"math"
	"strings"
	"testing"

	"tributary/api"
	"tributary/check"
)

func TestConfig(t *testing.T) {
	least := api.Config{Timeout: 1, Window: 1, Drift: 0, Step: 2, Most: 1}
	most := api.Config{Inbox: math.MaxUint32, Batcher: math.MaxUint32, Timeout: 8, Window: 8, Drift: 100, Step: 20, Most: 4096}
	if !check.Config(least) || !check.Config(most) {
		t.Errorf("P6: a config just at its bounds may not be")
	}
	below := []api.Config{least, least, least, least, least}
	above := []api.Config{most, most, most, most, most}
	for i, step := range []func(c *api.Config, n int){
		func(c *api.Config, n int) { c.Timeout += n },
		func(c *api.Config, n int) { c.Window += n },
		func(c *api.Config, n int) { c.Drift += n },
		func(c *api.Config, n int) { c.Step += n },
		func(c *api.Config, n int) { c.Most += n },
	} {
		step(&below[i], -1)
		step(&above[i], 1)
		if check.Config(below[i]) || check.Config(above[i]) {
			t.Errorf("P6: %+v or %+v may be", below[i], above[i])
		}
	}
}

func TestBlocks(t *testing.T) {
	for time, want := range map[int]bool{-1: false, 0: true, 1000000: true, 1000001: false, math.MinInt: false, math.MaxInt: false} {
		if check.First(api.Upper{Time: time}) != want {
			t.Errorf("P6: a first block of the time %d", time)
		}
	}
	for time, want := range map[int]bool{49: false, 50: false, 51: true, 74: true, 75: false, math.MinInt: false, math.MaxInt: false} {
		if check.Next(50, api.Upper{Time: time}) != want {
			t.Errorf("P6: a block of the time %d behind one of 50", time)
		}
	}
	for _, b := range []api.Upper{
		{Time: 1, Txs: make([]api.Tx, 21)}, {Time: 1, Logs: make([]string, 21)},
		{Time: 1, Txs: []api.Tx{{}, {Data: strings.Repeat("x", 2001)}}}, {Time: 1, Logs: []string{"", strings.Repeat("x", 2001)}},
	} {
		if check.First(b) || check.Next(0, b) || check.Chain([]api.Upper{b}) {
			t.Errorf("P6: a block that is too great may be")
		}
	}
}

func TestChain(t *testing.T) {
	chain := make([]api.Upper, 61)
	for i := range chain {
		chain[i].Time = 24 * i
	}
	for n := range 62 {
		if check.Chain(chain[:n]) != (n >= 1 && n <= 60) {
			t.Errorf("P6: a chain of %d blocks", n)
		}
	}
	for i := 1; i < 60; i++ {
		chain[i].Time++
		if check.Chain(chain[:60]) {
			t.Errorf("P6: a gap of 25 ahead of block %d", i)
		}
		chain[i].Time = chain[i-1].Time
		if check.Chain(chain[:60]) {
			t.Errorf("P6: no gap ahead of block %d", i)
		}
		chain[i].Time = 24 * i
	}
}
