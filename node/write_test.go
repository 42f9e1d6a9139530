package node

import (
	"encoding/binary"
	"strings"

	"tributary/api"
	"tributary/code"
)

var plain = api.Config{Inbox: 9, Batcher: 8, Timeout: 2, Window: 2, Drift: 10, Step: 2, Most: 1000}

func coded(i api.Item) string {
	s, e := code.Encode(i)
	if e != api.OK {
		panic("an item without a code")
	}
	return s
}

func list(kids ...api.Item) api.Item { return api.Item{List: true, Kids: kids} }

func number(n int) api.Item {
	b := binary.BigEndian.AppendUint64(nil, uint64(n))
	return api.Item{Bytes: strings.TrimLeft(string(b), "\x00")}
}

func batch(epoch, id, time int, txs ...string) string {
	l := list()
	for _, s := range txs {
		l.Kids = append(l.Kids, api.Item{Bytes: s})
	}
	return coded(api.Item{Bytes: "\x00" + coded(list(number(epoch), number(id), number(time), l))})
}

func deposit(name string) string { return coded(list(api.Item{Bytes: name}, api.Item{Bytes: "value"})) }

func dataOf(frames ...api.Frame) string {
	b := []byte{0}
	for _, f := range frames {
		b = binary.BigEndian.AppendUint32(b, f.Channel)
		b = binary.BigEndian.AppendUint16(b, f.Number)
		b = binary.BigEndian.AppendUint16(b, uint16(len(f.Data)))
		b = append(b, f.Data...)
		last := byte(0)
		if f.Last {
			last = 1
		}
		b = append(b, last)
	}
	return string(b)
}

// say is a transaction of these frames, for the config plain.
func say(frames ...api.Frame) api.Tx { return api.Tx{From: 8, To: 9, Data: dataOf(frames...)} }

// whole is a channel in one frame.
func whole(channel uint32, batches ...string) api.Frame {
	return api.Frame{Channel: channel, Data: code.Squeeze(strings.Join(batches, "")), Last: true}
}

// halves is a channel in two frames.
func halves(channel uint32, batches ...string) (api.Frame, api.Frame) {
	a := whole(channel, batches...)
	b := a
	half := len(a.Data) / 2
	a.Data, b.Data = a.Data[:half], b.Data[half:]
	a.Last, b.Number = false, 1
	return a, b
}

// up is upper blocks at these times.
func up(times ...int) []api.Upper {
	var l []api.Upper
	for _, t := range times {
		l = append(l, api.Upper{Time: t})
	}
	return l
}

// at is an upper block at a time, with these transactions.
func at(time int, txs ...api.Tx) api.Upper { return api.Upper{Time: time, Txs: txs} }
