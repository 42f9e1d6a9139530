package code

import "strings"

const (
	longest = 128 // the most bytes that one piece stands for
	noPiece = 128 // the one first byte with which no piece begins
	runBase = 257 // less the first byte of a run: how long that run is
)

// Spread is what squeezed bytes stand for (P4).
func Spread(s string, most int) (string, bool) {
	var b strings.Builder
	for s != "" {
		text, size, ok := firstPiece(s)
		if !ok {
			return b.String(), false
		}
		room := max(most-b.Len(), 0)
		if len(text) > room {
			b.WriteString(text[:room])
			return b.String(), false
		}
		b.WriteString(text)
		s = s[size:]
	}
	return b.String(), true
}

// firstPiece is what the piece with which s begins stands for, and how many
// bytes of s it has.
func firstPiece(s string) (text string, size int, ok bool) {
	c := int(s[0])
	switch {
	case c == noPiece:
		return "", 0, false
	case c > noPiece && len(s) >= 2:
		return strings.Repeat(s[1:2], runBase-c), 2, true
	case c < noPiece && len(s) >= c+2:
		return s[1 : c+2], c + 2, true
	}
	return "", 0, false
}

// plan is the best way to squeeze what stands from some place on: how many
// bytes that takes, and which piece comes first.
type plan struct {
	cost int
	run  bool
	size int
}

// Squeeze is squeezed bytes that stand for some bytes (P4).
func Squeeze(s string) string {
	plans := plansOf(s)
	var b strings.Builder
	b.Grow(plans[0].cost)
	for at := 0; at < len(s); at += plans[at].size {
		writePiece(&b, plans[at], s[at:])
	}
	return b.String()
}

// writePiece writes the first piece of a plan for s.
func writePiece(b *strings.Builder, p plan, s string) {
	if p.run {
		b.WriteByte(byte(runBase - p.size))
		b.WriteByte(s[0])
		return
	}
	b.WriteByte(byte(p.size - 1))
	b.WriteString(s[:p.size])
}

// plansOf has the best plan from each place of s on, and from its end.
//
// One plan a place is enough. Of two that cost the same, the one whose first
// piece takes in another byte for longer is as good as the other, whatever
// comes ahead; and a dearer one is never better, since all it can save is the
// one byte that begins a piece anew. Of runs the longest one is best, since
// fewer bytes never cost more.
func plansOf(s string) []plan {
	plans := make([]plan, len(s)+1)
	same := 0
	for at := len(s) - 1; at >= 0; at-- {
		same++
		if at+1 < len(s) && s[at+1] != s[at] {
			same = 1
		}
		best := withByte(plans[at+1])
		if same >= 2 {
			n := min(same, longest)
			if cost := plans[at+n].cost + 2; cost < best.cost {
				best = plan{cost: cost, run: true, size: n}
			}
		}
		plans[at] = best
	}
	return plans
}

// withByte is a plan with one byte more ahead, which is as it is.
func withByte(p plan) plan {
	if p.run || p.size == 0 || p.size == longest {
		return plan{cost: p.cost + 2, size: 1}
	}
	return plan{cost: p.cost + 1, size: p.size + 1}
}
