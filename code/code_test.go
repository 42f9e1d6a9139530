package code_test

import (
	"encoding/hex"
	"math/rand"
	"reflect"
	"strings"
	"testing"

	"tributary/api"
	"tributary/code"
)

func str(s string) api.Item { return api.Item{Bytes: s} }

func list(l ...api.Item) api.Item { return api.Item{List: true, Kids: l} }

func raw(t *testing.T, s string) string {
	t.Helper()
	b, err := hex.DecodeString(strings.ReplaceAll(s, " ", ""))
	if err != nil {
		t.Fatal(err)
	}
	return string(b)
}

// nested is so many lists in each other, around i.
func nested(n int, i api.Item) api.Item {
	for range n {
		i = list(i)
	}
	return i
}

// plainCode is the code of an item that has one, by the document's words.
func plainCode(i api.Item) string {
	near, far, body := 128, 183, i.Bytes
	if i.List {
		near, far, body = 192, 247, ""
		for _, kid := range i.Kids {
			body += plainCode(kid)
		}
	} else if len(body) == 1 && body[0] < 128 {
		return body
	}
	if len(body) <= 55 {
		return string([]byte{byte(near + len(body))}) + body
	}
	length := []byte{}
	for n := len(body); n > 0; n /= 256 {
		length = append([]byte{byte(n % 256)}, length...)
	}
	return string([]byte{byte(far + len(length))}) + string(length) + body
}

// randomItem is some item in which lists stand at most deep deep.
func randomItem(r *rand.Rand, deep int) api.Item {
	if deep == 0 || r.Intn(3) == 0 {
		lengths := []int{0, 1, 1, 2, 3, 54, 55, 56, 255, 256}
		b := make([]byte, lengths[r.Intn(len(lengths))])
		for i := range b {
			b[i] = byte(r.Intn(256))
		}
		return str(string(b))
	}
	i := list()
	for range r.Intn(4) {
		i.Kids = append(i.Kids, randomItem(r, deep-1))
	}
	return i
}

func checkCode(t *testing.T, i api.Item, want string) {
	t.Helper()
	if s, e := code.Encode(i); s != want || e != api.OK {
		t.Errorf("P3: Encode of the item of %.40x = %.40x, %d", want, s, e)
	}
	if got, e := code.Decode(want); !reflect.DeepEqual(got, i) || e != api.OK {
		t.Errorf("P3: Decode(%.40x) = %.80v, %d", want, got, e)
	}
}

func checkNoCode(t *testing.T, s string) {
	t.Helper()
	if i, e := code.Decode(s); !reflect.DeepEqual(i, api.Item{}) || e != api.ErrBytes {
		t.Errorf("P3: Decode(%.40x) = %.80v, %d, want ErrBytes", s, i, e)
	}
}

func TestCodesOfTheDocument(t *testing.T) {
	checkCode(t, str(""), "\x80")
	checkCode(t, str("\x7f"), "\x7f")
	checkCode(t, str("\x80"), "\x81\x80")
	long := strings.Repeat("x", 56)
	checkCode(t, str(long), "\xb8\x38"+long)
	checkCode(t, list(), "\xc0")
	checkCode(t, list(str("cat"), str("dog")), raw(t, "c8 83 63 61 74 83 64 6f 67"))
}

func TestEveryByte(t *testing.T) {
	for c := range 256 {
		s := string([]byte{byte(c)})
		if c < 128 {
			checkCode(t, str(s), s)
			checkNoCode(t, "\x81"+s)
		} else {
			checkCode(t, str(s), "\x81"+s)
		}
	}
}

func TestLengthsAtTheEdges(t *testing.T) {
	for _, c := range []struct {
		length     int
		text, many string
	}{
		{2, "82", "c2"}, {55, "b7", "f7"}, {56, "b8 38", "f8 38"}, {255, "b8 ff", "f8 ff"},
		{256, "b9 01 00", "f9 01 00"}, {65535, "b9 ff ff", "f9 ff ff"}, {65536, "ba 01 00 00", "fa 01 00 00"},
		{1<<24 - 1, "ba ff ff ff", "fa ff ff ff"},
	} {
		text := strings.Repeat("y", c.length)
		checkCode(t, str(text), raw(t, c.text)+text)
		if c.length < 1<<20 {
			kids := make([]api.Item, c.length)
			for i := range kids {
				kids[i] = str("y")
			}
			checkCode(t, list(kids...), raw(t, c.many)+text)
		}
	}
	text := strings.Repeat("y", 1<<24)
	checkCode(t, str(text), "\xbb\x01\x00\x00\x00"+text)
	checkCode(t, list(str(text)), "\xfb\x01\x00\x00\x05\xbb\x01\x00\x00\x00"+text)
}

func TestRandomItems(t *testing.T) {
	r := rand.New(rand.NewSource(3))
	for range 3000 {
		i := randomItem(r, r.Intn(api.MaxNest+1))
		want := plainCode(i)
		checkCode(t, i, want)
		if len(want) > 1 {
			checkNoCode(t, want[:r.Intn(len(want))])
		}
		checkNoCode(t, want+"\x00")
		checkNoCode(t, want+want)
	}
}

func TestDepth(t *testing.T) {
	checkCode(t, nested(8, str("deep")), raw(t, "cc cb ca c9 c8 c7 c6 c5 84 64 65 65 70"))
	checkCode(t, list(nested(7, str("")), nested(7, str(""))), "\xd0"+strings.Repeat(plainCode(nested(7, str(""))), 2))
	for _, i := range []api.Item{nested(9, str("deep")), nested(8, list()), list(str("a"), nested(8, str("")))} {
		checkWrong(t, i)
		checkNoCode(t, plainCode(i))
	}
	checkWrong(t, nested(10000, str("")))
	checkNoCode(t, plainCode(nested(1000, str(""))))
}

func checkWrong(t *testing.T, i api.Item) {
	t.Helper()
	if s, e := code.Encode(i); s != "" || e != api.ErrBytes {
		t.Errorf("P3: Encode of a wrong item = %.40x, %d, want ErrBytes", s, e)
	}
}

func TestWrongItems(t *testing.T) {
	for _, i := range []api.Item{
		{List: true, Bytes: "a"},
		{List: true, Bytes: "a", Kids: []api.Item{str("b")}},
		{Kids: []api.Item{str("b")}},
		{Bytes: "a", Kids: []api.Item{str("b")}},
	} {
		for deep := range api.MaxNest {
			checkWrong(t, nested(deep, i))
			checkWrong(t, nested(deep, list(str("ahead"), i, str("behind"))))
		}
	}
	if s, e := code.Encode(api.Item{Bytes: "b", Kids: []api.Item{}}); s != "b" || e != api.OK {
		t.Errorf("P3: an empty list of Kids is none: %x, %d", s, e)
	}
}

func TestWrongCodes(t *testing.T) {
	long := strings.Repeat("z", 300)
	for _, s := range []string{
		"", "\x80\x80", "\x82a", "\xb7" + long[:54], "\xb7" + long[:56],
		"\xb8", "\xb8\x00", "\xb8\x37" + long[:55], "\xb8\x38" + long[:55], "\xb8\x38" + long[:57],
		"\xb9\x00\x38" + long[:56], "\xb9\x00\xff" + long[:255], "\xb9\x01" + long[:256], "\xba\x00\x01\x00" + long[:256],
		"\xbb\xff\xff\xff\xff" + long, "\xbc\x00\x00\x00\x01\x00" + long[:256], "\xbc\x01\x00\x00\x00\x00", "\xbf" + strings.Repeat("\xff", 8),
		"\xc1", "\xc0\xc0", "\xc1\x81", "\xc2\x81\x00", "\xc1\x82", "\xc3\x82a", "\xc2\xc2\x00",
		"\xf8", "\xf8\x00", "\xf8\x37" + long[:55], "\xf8\x38" + long[:55], "\xf9\x00\x38" + long[:56],
		"\xfb\xff\xff\xff\xff" + long, "\xfc\x00\x00\x00\x01\x00" + long[:256], "\xff" + strings.Repeat("\xff", 8),
	} {
		checkNoCode(t, s)
	}
}

// shortItems is every item whose code has n bytes, for n from 1 to 3.
func shortItems(n int) []api.Item {
	var items []api.Item
	switch n {
	case 1:
		for c := range 128 {
			items = append(items, str(string([]byte{byte(c)})))
		}
		return append(items, str(""), list())
	case 2:
		for c := 128; c < 256; c++ {
			items = append(items, str(string([]byte{byte(c)})))
		}
	case 3:
		for c := range 1 << 16 {
			items = append(items, str(string([]byte{byte(c >> 8), byte(c)})))
		}
		for _, a := range shortItems(1) {
			for _, b := range shortItems(1) {
				items = append(items, list(a, b))
			}
		}
	}
	for _, a := range shortItems(n - 1) {
		items = append(items, list(a))
	}
	return items
}

// Of all texts of up to three bytes, just those are codes that are the code of an item.
func TestEveryShortText(t *testing.T) {
	codes := map[string]api.Item{}
	for n := 1; n <= 3; n++ {
		for _, i := range shortItems(n) {
			codes[plainCode(i)] = i
		}
	}
	for n := 0; n <= 3; n++ {
		for c := range 1 << (8 * n) {
			s := string([]byte{byte(c >> 16), byte(c >> 8), byte(c)}[3-n:])
			want, isCode := codes[s]
			i, e := code.Decode(s)
			if isCode != (e == api.OK) || !isCode && e != api.ErrBytes || !reflect.DeepEqual(i, want) {
				t.Fatalf("P3: Decode(%x) = %v, %d, want %v, %t", s, i, e, want, isCode)
			}
		}
	}
}

func TestEveryCallEnds(t *testing.T) {
	kids := make([]api.Item, 50)
	for i := range kids {
		kids[i] = api.Item{List: true, Kids: kids}
	}
	checkWrong(t, list(kids...))

	// The length of this would have five bytes.
	text := str(strings.Repeat("w", 1<<20))
	many := make([]api.Item, 1<<12)
	for i := range many {
		many[i] = text
	}
	checkWrong(t, list(many...))
	checkWrong(t, list(list(many[1:]...), text))

	r := rand.New(rand.NewSource(4))
	heads := "\x00\x37\x38\x7f\x80\x81\xb7\xb8\xb9\xbb\xbc\xbf\xc0\xc1\xc2\xc8\xf7\xf8\xf9\xfb\xfc\xff"
	for range 100000 {
		b := make([]byte, r.Intn(12))
		for i := range b {
			b[i] = heads[r.Intn(len(heads))]
		}
		s := string(b)
		i, e := code.Decode(s)
		if e != api.OK {
			checkNoCode(t, s)
		} else if again, _ := code.Encode(i); again != s {
			t.Fatalf("P3: Decode(%x) = %v, whose code is %x", s, i, again)
		}
	}
}

// copyOf shares no memory with i.
func copyOf(i api.Item) api.Item {
	kids := i.Kids
	i.Kids = nil
	for _, kid := range kids {
		i.Kids = append(i.Kids, copyOf(kid))
	}
	return i
}

// spoil changes all memory that the lists of i reach, behind their ends too.
func spoil(i api.Item) {
	kids := i.Kids[:cap(i.Kids)]
	for k := range kids {
		spoil(kids[k])
		kids[k] = str("spoilt")
	}
}

func TestNothingIsKeptOrChanged(t *testing.T) {
	r := rand.New(rand.NewSource(5))
	for range 300 {
		i := randomItem(r, 5)
		before := copyOf(i)
		s, _ := code.Encode(i)
		if !reflect.DeepEqual(i, before) {
			t.Fatalf("P2: Encode changed its item to %v", i)
		}
		one, _ := code.Decode(s)
		two, _ := code.Decode(s)
		spoil(i)
		spoil(one)
		if !reflect.DeepEqual(two, before) {
			t.Fatalf("P2: what Decode gave is not fresh: %v", two)
		}
	}
}

func TestListsOfOneAnswerShareNothing(t *testing.T) {
	s := plainCode(list(list(str("a"), str("b"), str("c")), list(str("d")), list(list(str("e")), str("f"))))
	want, _ := code.Decode(s)
	for k := range want.Kids {
		got, _ := code.Decode(s)
		spoil(got.Kids[k])
		got.Kids[k] = want.Kids[k]
		if !reflect.DeepEqual(got, want) {
			t.Errorf("P2: list %d shares memory with another one: %v", k, got)
		}
	}
}
