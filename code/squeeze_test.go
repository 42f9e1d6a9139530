package code_test

import (
	"math"
	"math/rand"
	"strings"
	"testing"

	"tributary/code"
)

// differing is n bytes of which no two neighbours are the same.
func differing(n int) string {
	b := make([]byte, n)
	for i := range b {
		b[i] = byte(i * 7)
	}
	return string(b)
}

// fewest is how few squeezed bytes can stand for s: every piece is tried at every place.
func fewest(s string) int {
	best := make([]int, len(s)+1)
	for at := len(s) - 1; at >= 0; at-- {
		best[at] = math.MaxInt
		same := true
		for n := 1; n <= 128 && at+n <= len(s); n++ {
			same = same && s[at+n-1] == s[at]
			best[at] = min(best[at], 1+n+best[at+n])
			if same && n > 1 {
				best[at] = min(best[at], 2+best[at+n])
			}
		}
	}
	return best[0]
}

func checkSqueeze(t *testing.T, s string) {
	t.Helper()
	q := code.Squeeze(s)
	if back, ok := code.Spread(q, len(s)); back != s || !ok {
		t.Fatalf("P4: Squeeze(%q) = %x, which stands for %q, %t", s, q, back, ok)
	}
	if n := fewest(s); len(q) != n {
		t.Fatalf("P4: Squeeze(%q) = %x, of %d bytes; %d are enough", s, q, len(q), n)
	}
}

func TestSqueezeOfTheDocument(t *testing.T) {
	if q := code.Squeeze("aaaab"); q != "\xfda\x00b" {
		t.Errorf("P4: Squeeze(aaaab) = %x", q)
	}
	if q := code.Squeeze(differing(128)); q != "\x7f"+differing(128) {
		t.Errorf("P4: Squeeze of 128 differing bytes = %x", q)
	}
	if q := code.Squeeze(""); q != "" {
		t.Errorf("P4: Squeeze of nothing = %x", q)
	}
}

func TestSqueezeEveryShortText(t *testing.T) {
	texts := []string{""}
	for range 9 {
		var longer []string
		for _, s := range texts {
			checkSqueeze(t, s)
			longer = append(longer, s+"a", s+"b", s+"c")
		}
		texts = longer
	}
}

func TestSqueezeRuns(t *testing.T) {
	for n := range 400 {
		run := strings.Repeat("\xff", n)
		checkSqueeze(t, run)
		checkSqueeze(t, "a"+run+"b")
		checkSqueeze(t, differing(n))
		checkSqueeze(t, differing(n)+"xx"+differing(140))
		checkSqueeze(t, differing(n)+"xxx"+differing(140)+"yyy")
		checkSqueeze(t, "xx"+differing(n)+"yy"+differing(400-n))
	}
}

func TestSqueezeRandomTexts(t *testing.T) {
	r := rand.New(rand.NewSource(6))
	for range 1500 {
		var b strings.Builder
		kinds, length := 1+r.Intn(4), r.Intn(600)
		likely := 1 + r.Intn(40)
		for b.Len() < length {
			n := 1
			if r.Intn(likely) == 0 {
				n = 1 + r.Intn(5)
			}
			if r.Intn(30*likely) == 0 {
				n = 120 + r.Intn(20)
			}
			c := byte(b.Len())
			if kinds < 4 {
				c = byte(r.Intn(1 << (2 * kinds)))
			}
			b.WriteString(strings.Repeat(string([]byte{c}), n))
		}
		checkSqueeze(t, b.String())
	}
}

func checkSpread(t *testing.T, q string, most int, want string, all bool) {
	t.Helper()
	if s, ok := code.Spread(q, most); s != want || ok != all {
		t.Errorf("P4: Spread(%.40x, %d) = %.40q, %t, want %.40q, %t", q, most, s, ok, want, all)
	}
}

func TestSpreadOfTheDocument(t *testing.T) {
	checkSpread(t, "\xfda\x00b", 100, "aaaab", true)
	checkSpread(t, "\x80", 100, "", false)
	checkSpread(t, "\x01a", 100, "", false)
}

func TestSpreadEveryFirstByte(t *testing.T) {
	text := differing(128)
	for c := range 256 {
		head := string([]byte{byte(c)})
		switch {
		case c < 128:
			checkSpread(t, head+text[:c+1], 128, text[:c+1], true)
			checkSpread(t, head+text[:c], 128, "", false)
			checkSpread(t, head+text[:c+1], c, text[:c], false)
		case c == 128:
			checkSpread(t, head+"x", 128, "", false)
		default:
			checkSpread(t, head+"x", 128, strings.Repeat("x", 257-c), true)
			checkSpread(t, head, 128, "", false)
			checkSpread(t, head+"x", 256-c, strings.Repeat("x", 256-c), false)
		}
	}
}

func TestSpreadUpToMost(t *testing.T) {
	q, s := "\xfda\x01bc\xffd", "aaaabcdd"
	for most := range len(s) {
		checkSpread(t, q, most, s[:most], false)
	}
	for _, most := range []int{len(s), len(s) + 1, math.MaxInt} {
		checkSpread(t, q, most, s, true)
	}
	for _, most := range []int{-1, math.MinInt} {
		checkSpread(t, q, most, "", false)
		checkSpread(t, "", most, "", true)
	}
	checkSpread(t, "", 0, "", true)
	checkSpread(t, "\x00", 0, "", false)
}

func TestSpreadUpToNoPiece(t *testing.T) {
	checkSpread(t, "\x00a\x80\x00b", 100, "a", false)
	checkSpread(t, "\x00a\xff", 100, "a", false)
	checkSpread(t, "\x00a\x02bc", 100, "a", false)
	checkSpread(t, "\x00a\x80", 1, "a", false)
	// A piece that is none gives nothing, even where it would be cut off anyway.
	checkSpread(t, "\x05bc", 1, "", false)
}

// Whatever the bytes are, Spread with less room gives a beginning of what it gives with more.
func TestSpreadRandomBytes(t *testing.T) {
	r := rand.New(rand.NewSource(7))
	heads := "\x00\x01\x02\x7f\x80\x81\xfe\xff"
	for range 20000 {
		b := make([]byte, r.Intn(10))
		for i := range b {
			b[i] = heads[r.Intn(len(heads))]
		}
		all, ok := code.Spread(string(b), math.MaxInt)
		most := r.Intn(300)
		if len(all) > most {
			all, ok = all[:most], false
		}
		checkSpread(t, string(b), most, all, ok)
	}
}
