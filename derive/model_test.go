package derive

import (
	"encoding/binary"
	"strings"

	"tributary/api"
	"tributary/code"
)

// model draws a lower chain as plainly as the document's words say it, with no
// thought of how long that takes. It notes which of them it has met.
type model struct {
	config  api.Config
	upper   []api.Upper
	open    []modelChannel
	waiting []modelBatch
	lower   []api.Lower
	met     map[string]int
}

type modelChannel struct {
	name   uint32
	opened int
	spoilt bool
	frames []api.Frame
}

type modelBatch struct {
	epoch, id, time uint64
	txs             []string
	place           int
}

func (m *model) meet(what string) { m.met[what]++ }

// take takes an upper block, and draws all that comes of it.
func (m *model) take(b api.Upper) {
	m.upper = append(m.upper, b)
	n := len(m.upper) - 1
	if n == 0 {
		m.lower = []api.Lower{{Time: b.Time, Id: b.Id, Deposits: modelDeposits(b)}}
	}
	m.timeOut(n)
	for _, x := range b.Txs {
		if x.To != m.config.Inbox || x.From != m.config.Batcher {
			m.meet("another's transaction")
			continue
		}
		for _, f := range m.frames(x.Data) {
			m.takeFrame(f, n)
		}
	}
	for len(m.open) > 0 && m.open[0].whole() {
		c := m.open[0]
		m.open = m.open[1:]
		m.read(c.bytes(), n)
	}
	for _, c := range m.open {
		if c.whole() {
			m.meet("a whole channel waits")
		}
	}
	for m.drawOne(n) {
	}
}

func (m *model) timeOut(n int) {
	var rest []modelChannel
	for _, c := range m.open {
		if n-c.opened > m.config.Timeout {
			m.meet("a channel times out")
			continue
		}
		rest = append(rest, c)
	}
	m.open = rest
}

func (m *model) frames(data string) []api.Frame {
	if len(data) < 2 || data[0] != 0 {
		m.meet("data without frames")
		return nil
	}
	var l []api.Frame
	for rest := data[1:]; rest != ""; {
		if len(rest) < 9 {
			m.meet("data that are cut")
			return nil
		}
		end := 8 + int(binary.BigEndian.Uint16([]byte(rest[6:8])))
		if len(rest) <= end || rest[end] > 1 {
			m.meet("data that are cut")
			return nil
		}
		l = append(l, api.Frame{
			Channel: binary.BigEndian.Uint32([]byte(rest[:4])),
			Number:  binary.BigEndian.Uint16([]byte(rest[4:6])),
			Data:    rest[8:end], Last: rest[end] == 1,
		})
		rest = rest[end+1:]
	}
	return l
}

func (m *model) takeFrame(f api.Frame, n int) {
	if f.Number == 0 {
		var rest []modelChannel
		for _, c := range m.open {
			if c.name != f.Channel {
				rest = append(rest, c)
			} else {
				m.meet("a channel is opened again")
			}
		}
		m.open = append(rest, modelChannel{name: f.Channel, opened: n})
	}
	for i := range m.open {
		if m.open[i].name == f.Channel {
			m.join(&m.open[i], f)
			return
		}
	}
	m.meet("a frame without a channel")
}

func (m *model) join(c *modelChannel, f api.Frame) {
	if c.spoilt {
		m.meet("a frame of a spoilt channel")
		return
	}
	for _, g := range c.frames {
		if g.Number == f.Number {
			m.meet("a frame twice")
			return
		}
		if g.Last && f.Last {
			m.meet("a second last frame")
			return
		}
		if g.Last && f.Number > g.Number {
			m.meet("a frame behind the last one")
			return
		}
	}
	c.frames = append(c.frames, f)
	if f.Last {
		var rest []api.Frame
		for _, g := range c.frames {
			if g.Number > f.Number {
				m.meet("a frame goes")
				continue
			}
			rest = append(rest, g)
		}
		c.frames = rest
	}
	size := 0
	for _, g := range c.frames {
		size += len(g.Data)
	}
	if size > m.config.Most {
		m.meet("a channel is spoilt")
		c.spoilt = true
		c.frames = nil
	}
}

// at is the frame of a number.
func (c modelChannel) at(number int) (api.Frame, bool) {
	for _, f := range c.frames {
		if int(f.Number) == number {
			return f, true
		}
	}
	return api.Frame{}, false
}

func (c modelChannel) whole() bool {
	for number := 0; ; number++ {
		f, ok := c.at(number)
		if !ok || f.Last {
			return ok
		}
	}
}

func (c modelChannel) bytes() string {
	s := ""
	for number := 0; ; number++ {
		f, _ := c.at(number)
		s += f.Data
		if f.Last {
			return s
		}
	}
}

func (m *model) read(bytes string, n int) {
	text, all := code.Spread(bytes, api.MaxSpread)
	if len(text) == api.MaxSpread && !all {
		m.meet("bytes are cut off")
	} else if !all {
		m.meet("a piece that is none")
	}
	for text != "" {
		i, size, ok := firstItem(text)
		if !ok {
			m.meet("bytes that are no item")
			return
		}
		b, ok := modelBatchOf(i)
		if !ok {
			m.meet("an item that is no batch")
			return
		}
		text = text[size:]
		if b.epoch > uint64(n) {
			m.meet("a batch of an epoch to come")
			continue
		}
		b.place = n
		m.waiting = append(m.waiting, b)
	}
}

// firstItem tries every beginning of a text.
func firstItem(text string) (api.Item, int, bool) {
	for size := 1; size <= len(text); size++ {
		if i, e := code.Decode(text[:size]); e == api.OK {
			return i, size, true
		}
	}
	return api.Item{}, 0, false
}

func modelBatchOf(i api.Item) (modelBatch, bool) {
	if i.List || !strings.HasPrefix(i.Bytes, "\x00") {
		return modelBatch{}, false
	}
	l, e := code.Decode(i.Bytes[1:])
	if e != api.OK || !l.List || len(l.Kids) != 4 || !l.Kids[3].List {
		return modelBatch{}, false
	}
	var numbers [3]uint64
	for k := range numbers {
		kid := l.Kids[k]
		if kid.List || len(kid.Bytes) > 8 || strings.HasPrefix(kid.Bytes, "\x00") {
			return modelBatch{}, false
		}
		var eight [8]byte
		copy(eight[8-len(kid.Bytes):], kid.Bytes)
		numbers[k] = binary.BigEndian.Uint64(eight[:])
		if numbers[k] >= 1<<62 {
			return modelBatch{}, false
		}
	}
	b := modelBatch{epoch: numbers[0], id: numbers[1], time: numbers[2]}
	for _, kid := range l.Kids[3].Kids {
		if kid.List {
			return modelBatch{}, false
		}
		b.txs = append(b.txs, kid.Bytes)
	}
	return b, true
}

func modelDeposits(b api.Upper) []string {
	var l []string
	for _, log := range b.Logs {
		i, e := code.Decode(log)
		if e != api.OK || !i.List || len(i.Kids) != 2 || i.Kids[0].List || i.Kids[1].List {
			continue
		}
		if n := len(i.Kids[0].Bytes); n < 1 || n > 8 || len(i.Kids[1].Bytes) > 64 {
			continue
		}
		l = append(l, log)
	}
	return l
}

// drawOne goes through the batches that wait, and tells whether a block came.
func (m *model) drawOne(n int) bool {
	last := m.lower[len(m.lower)-1]
	e, t := last.Epoch, last.Time+m.config.Step
	var kept []modelBatch
	for i, b := range m.waiting {
		switch what := m.judge(b, e, t, n); what {
		case "stays":
			kept = append(kept, b)
		case "nothing now":
			m.waiting = append(kept, m.waiting[i:]...)
			m.meet(what)
			return false
		case "drawn of e", "drawn of e + 1":
			m.waiting = append(kept, m.waiting[i+1:]...)
			m.meet(what)
			m.lay(int(b.epoch), b.txs, n)
			return true
		default:
			m.meet(what)
		}
	}
	m.waiting = kept
	if n <= e+m.config.Window {
		return false
	}
	if m.upper[e+1].Time <= t {
		m.meet("empty of e + 1")
		m.lay(e+1, nil, n)
	} else {
		m.meet("empty of e")
		m.lay(e, nil, n)
	}
	return true
}

func (m *model) judge(b modelBatch, e, t, n int) string {
	if b.time > uint64(t) {
		return "stays"
	}
	if b.time < uint64(t) {
		return "goes: time"
	}
	if b.epoch != uint64(e) && b.epoch != uint64(e+1) {
		return "goes: epoch"
	}
	epoch := int(b.epoch)
	if b.place > epoch+m.config.Window {
		return "goes: window"
	}
	known := e+1 <= n
	if epoch == e+1 && !known {
		return "nothing now"
	}
	if len(b.txs) == 0 && epoch == e && !known && t > m.upper[e].Time+m.config.Drift {
		return "nothing now"
	}
	u := m.upper[epoch]
	if u.Id < 0 || b.id != uint64(u.Id) {
		return "goes: Id"
	}
	if t < u.Time {
		return "goes: ahead of its epoch"
	}
	if t > u.Time+m.config.Drift {
		if len(b.txs) > 0 {
			return "goes: drift with transactions"
		}
		if epoch == e && m.upper[e+1].Time <= t {
			return "goes: drift holds an epoch back"
		}
		m.meet("drawn behind the drift")
	}
	if epoch == e {
		return "drawn of e"
	}
	return "drawn of e + 1"
}

func (m *model) lay(epoch int, txs []string, n int) {
	last := m.lower[len(m.lower)-1]
	l := api.Lower{
		Number: last.Number + 1, Time: last.Time + m.config.Step,
		Epoch: epoch, Id: m.upper[epoch].Id, Seq: last.Seq + 1,
		Txs: txs, At: n,
	}
	if epoch != last.Epoch {
		l.Seq = 0
		l.Deposits = modelDeposits(m.upper[epoch])
	}
	m.lower = append(m.lower, l)
}
