package item_test

import (
	"reflect"
	"testing"

	"tributary/api"
	"tributary/item"
)

// gone is what Each gives of s, at most so many.
func gone(s string, most int) (ends []int, items []api.Item) {
	for end, i := range item.Each(s) {
		ends = append(ends, end)
		items = append(items, i)
		if len(items) == most {
			break
		}
	}
	return ends, items
}

func TestEachGivesItemsUpToTheFirstThatIsNone(t *testing.T) {
	cat, empty, pair := api.Item{Bytes: "cat"}, api.Item{List: true}, api.Item{List: true, Kids: []api.Item{{Bytes: "a"}, {}}}
	for _, c := range []struct {
		s     string
		ends  []int
		items []api.Item
	}{
		{"", nil, nil},
		{"\x83cat", []int{4}, []api.Item{cat}},
		{"\x83cat\xc0\xc2a\x80", []int{4, 5, 8}, []api.Item{cat, empty, pair}},
		{"\x83cat\xc0\xc2a", []int{4, 5}, []api.Item{cat, empty}},
		{"\x83cat\x81a\x83cat", []int{4}, []api.Item{cat}},
		{"\xff\x83cat", nil, nil},
		{"\xc0\xc8\xc7\xc6\xc5\xc4\xc3\xc2\xc1\xc0", []int{1}, []api.Item{empty}},
	} {
		if ends, items := gone(c.s, -1); !reflect.DeepEqual(ends, c.ends) || !reflect.DeepEqual(items, c.items) {
			t.Errorf("P3: Each(%x) gave %v, ending at %v", c.s, items, ends)
		}
	}
}

func TestEachStopsWhenNobodyAsks(t *testing.T) {
	s := "\x83cat\x83dog\x83cow"
	for most := 1; most <= 3; most++ {
		ends, items := gone(s, most)
		if len(items) != most || ends[most-1] != 4*most {
			t.Errorf("P3: of %d items asked for, Each gave %v, ending at %v", most, items, ends)
		}
	}
}
