package derive

import (
	"encoding/binary"
	"math/rand"
	"slices"
	"strings"
	"testing"
	"unsafe"

	"tributary/api"
)

// bytesOf is the bytes of a frame, by the document's words.
func bytesOf(f api.Frame) string {
	b := binary.BigEndian.AppendUint32(nil, f.Channel)
	b = binary.BigEndian.AppendUint16(b, f.Number)
	b = binary.BigEndian.AppendUint16(b, uint16(len(f.Data)))
	b = append(b, f.Data...)
	if f.Last {
		return string(append(b, 1))
	}
	return string(append(b, 0))
}

// dataOf is the Data of a transaction of these frames.
func dataOf(frames ...api.Frame) string {
	s := "\x00"
	for _, f := range frames {
		s += bytesOf(f)
	}
	return s
}

func checkFrames(t *testing.T, data string, want []api.Frame) {
	t.Helper()
	if l, ok := Frames(data); !ok || !slices.Equal(l, want) {
		t.Errorf("P5: Frames(%.60x) = %.200v, %t, want %.200v", data, l, ok, want)
	}
}

func checkNoFrames(t *testing.T, data string) {
	t.Helper()
	if l, ok := Frames(data); ok || l != nil {
		t.Errorf("P5: Frames(%.60x) = %.200v, %t, want none", data, l, ok)
	}
}

func TestFramesOfTheDocument(t *testing.T) {
	checkFrames(t, "\x00\x00\x00\x00\x07\x00\x00\x00\x02hi\x01", []api.Frame{{Channel: 7, Number: 0, Data: "hi", Last: true}})
}

func TestEachFieldOfAFrame(t *testing.T) {
	checkFrames(t, "\x00\x12\x34\x56\x78\x9a\xbc\x00\x01z\x00", []api.Frame{{Channel: 0x12345678, Number: 0x9abc, Data: "z"}})
	for _, channel := range []uint32{0, 1, 255, 256, 1<<24 - 1, 1 << 24, 1<<31 - 1, 1 << 31, 1<<32 - 1} {
		for _, number := range []uint16{0, 1, 255, 256, 1<<15 - 1, 1 << 15, 1<<16 - 1} {
			for _, last := range []bool{false, true} {
				f := api.Frame{Channel: channel, Number: number, Data: "\x00\x01\xff", Last: last}
				checkFrames(t, dataOf(f), []api.Frame{f})
			}
		}
	}
}

func TestLengthsOfFrames(t *testing.T) {
	behind := api.Frame{Channel: 1, Number: 2, Data: "behind", Last: true}
	for _, n := range []int{0, 1, 2, 127, 128, 255, 256, 257, 32767, 32768, 65534, 65535} {
		f := api.Frame{Channel: 9, Number: 3, Data: strings.Repeat("\x01", n)}
		s := dataOf(f)
		checkFrames(t, s, []api.Frame{f})
		checkFrames(t, dataOf(f, behind, f), []api.Frame{f, behind, f})
		checkNoFrames(t, s[:len(s)-1])
		checkNoFrames(t, s+"\x00")
		checkNoFrames(t, s+"\x01")
	}
}

func TestLengthThatIsNotThatOfTheBytes(t *testing.T) {
	for _, c := range []struct{ length, rest string }{
		{"\x00\x00", "\x00\x00"}, {"\x00\x01", "\x00"}, {"\x00\x01", "\x00\x00\x00"},
		{"\x00\x03", "hi\x01"}, {"\x00\x01", "hi\x01"}, {"\x02\x00", "hi\x01"}, {"\xff\xff", "hi\x01"},
		{"\xff\xff", strings.Repeat("\x00", 65535)}, {"\xff\xff", strings.Repeat("\x00", 65537)},
	} {
		checkNoFrames(t, "\x00\x00\x00\x00\x07\x00\x00"+c.length+c.rest)
	}
}

func TestDataWithoutFrames(t *testing.T) {
	checkNoFrames(t, "")
	for n := 1; n < 10; n++ {
		checkNoFrames(t, strings.Repeat("\x00", n))
	}
	f := api.Frame{Channel: 7, Data: "hi", Last: true}
	checkNoFrames(t, bytesOf(f))
	for c := range 256 {
		first := string([]byte{byte(c)})
		if c != 0 {
			checkNoFrames(t, first)
			checkNoFrames(t, first+bytesOf(f))
		}
	}
}

func TestLastByteOfAFrame(t *testing.T) {
	one, two := api.Frame{Channel: 7, Data: "hi"}, api.Frame{Channel: 8, Number: 1}
	for c := 2; c < 256; c++ {
		last := string([]byte{byte(c)})
		for _, f := range []api.Frame{one, two} {
			s := bytesOf(f)
			wrong := s[:len(s)-1] + last
			checkNoFrames(t, "\x00"+wrong)
			checkNoFrames(t, "\x00"+wrong+bytesOf(two))
			checkNoFrames(t, dataOf(one, two)+wrong)
		}
	}
}

// randomFrames is some frames, at least one.
func randomFrames(r *rand.Rand) []api.Frame {
	frames := make([]api.Frame, 1+r.Intn(5))
	for i := range frames {
		b := make([]byte, r.Intn(6))
		for k := range b {
			b[k] = byte(r.Intn(3))
		}
		frames[i] = api.Frame{Channel: r.Uint32(), Number: uint16(r.Uint32()), Data: string(b), Last: r.Intn(2) == 0}
	}
	return frames
}

func TestManyFramesAndEveryCut(t *testing.T) {
	r := rand.New(rand.NewSource(5))
	for range 500 {
		frames := randomFrames(r)
		s := dataOf(frames...)
		checkFrames(t, s, frames)
		checkNoFrames(t, s+"\x00")
		whole := map[int]int{}
		for i := range frames {
			whole[len(dataOf(frames[:i+1]...))] = i + 1
		}
		for cut := range len(s) {
			if n := whole[cut]; n > 0 {
				checkFrames(t, s[:cut], frames[:n])
			} else {
				checkNoFrames(t, s[:cut])
			}
		}
	}
}

// Whatever the bytes: what is told is either none, or just what they are.
func TestAnyBytes(t *testing.T) {
	r := rand.New(rand.NewSource(6))
	found := 0
	for range 200000 {
		b := make([]byte, r.Intn(32))
		for i := range b {
			b[i] = byte(r.Intn(20) / 18)
		}
		s := string(b)
		l, ok := Frames(s)
		if want := framesByWords(s); ok != (want != nil) || !slices.Equal(l, want) {
			t.Fatalf("P5: Frames(%x) = %v, %t, want %v", s, l, ok, want)
		}
		if ok {
			found++
		}
	}
	if found < 1000 {
		t.Errorf("only %d of the texts held frames", found)
	}
}

// framesByWords tries every length of a first frame; nil, if there are none.
func framesByWords(s string) []api.Frame {
	if s == "" || s[0] != 0 {
		return nil
	}
	for end := 10; end <= len(s); end++ {
		f := api.Frame{
			Channel: binary.BigEndian.Uint32([]byte(s[1:5])),
			Number:  binary.BigEndian.Uint16([]byte(s[5:7])),
			Data:    s[9 : end-1],
			Last:    s[end-1] == 1,
		}
		if bytesOf(f) != s[1:end] {
			continue
		}
		if end == len(s) {
			return []api.Frame{f}
		}
		if rest := framesByWords("\x00" + s[end:]); rest != nil {
			return append([]api.Frame{f}, rest...)
		}
	}
	return nil
}

func TestFramesAreFresh(t *testing.T) {
	frames := []api.Frame{{Channel: 1, Data: "one"}, {Channel: 2, Number: 1, Data: "two", Last: true}, {Channel: 3, Data: "three"}}
	raw := []byte(dataOf(frames...))
	s := unsafe.String(&raw[0], len(raw))
	one, _ := Frames(s)
	two, _ := Frames(s)
	if string(raw) != dataOf(frames...) {
		t.Errorf("P2: Frames changed its data to %x", raw)
	}
	for i := range raw {
		raw[i] = 0xee
	}
	one = one[:cap(one)]
	for i := range one {
		one[i] = api.Frame{Data: "spoilt"}
	}
	if !slices.Equal(two, frames) {
		t.Errorf("P2: what Frames gave is not fresh: %v", two)
	}
}
