package frame_test

import (
	"slices"
	"testing"

	"tributary/api"
	"tributary/frame"
)

const three = "\x00\x00\x00\x01\x00\x00\x00\x01a\x00" + "\x00\x00\x00\x02\x00\x07\x00\x00\x01" + "\x00\x00\x00\x03\x00\x00\x00\x02bc\x01"

var (
	frames = []api.Frame{{Channel: 1, Data: "a"}, {Channel: 2, Number: 7, Last: true}, {Channel: 3, Data: "bc", Last: true}}
	ends   = []int{10, 19, 30}
)

// gone is what Each gives of s, at most so many.
func gone(s string, most int) (at []int, l []api.Frame) {
	for end, f := range frame.Each(s) {
		at = append(at, end)
		l = append(l, f)
		if len(l) == most {
			break
		}
	}
	return at, l
}

func TestEachGivesFramesUpToTheFirstThatIsNone(t *testing.T) {
	for cut := range len(three) + 1 {
		n := 0
		for n < len(ends) && ends[n] <= cut {
			n++
		}
		for _, behind := range []string{"", "none", "\xff\xff\xff\xff\xff\xff\xff\xff\xff"} {
			if cut < len(three) && behind != "" {
				continue
			}
			if at, l := gone(three[:cut]+behind, -1); !slices.Equal(l, frames[:n]) || !slices.Equal(at, ends[:n]) {
				t.Errorf("P5: Each of %d bytes and %q gave %v, ending at %v", cut, behind, l, at)
			}
		}
	}
}

func TestEachStopsWhenNobodyAsks(t *testing.T) {
	for most := 1; most <= len(frames); most++ {
		if at, l := gone(three+"none", most); !slices.Equal(l, frames[:most]) || !slices.Equal(at, ends[:most]) {
			t.Errorf("P5: of %d frames asked for, Each gave %v, ending at %v", most, l, at)
		}
	}
}

func TestAllTellsTheFramesOrNone(t *testing.T) {
	if l, ok := frame.All("\x00" + three); !ok || !slices.Equal(l, frames) {
		t.Errorf("P5: All gave %v, %t", l, ok)
	}
	for _, s := range []string{"", "\x00", three, "\x01" + three, "\x00" + three + "none", "\x00" + three[:29]} {
		if l, ok := frame.All(s); ok || l != nil {
			t.Errorf("P5: All(%x) gave %v, %t", s, l, ok)
		}
	}
}
