package bits_test

import (
	"bytes"
	"math"
	"math/big"
	"math/rand"
	"strings"
	"testing"

	"hectograph/bits"
)

// row is n bytes of 255, and last behind it.
func row(n int, last ...byte) []byte {
	return append(bytes.Repeat([]byte{255}, n), last...)
}

// oddPlaces are places and widths of every kind: inside, at the edges, far off.
func oddPlaces() []int {
	return []int{math.MinInt, math.MinInt + 1, math.MinInt32, -65, -64, -9, -8, -1, 0, 1, 2, 7, 8, 9, 10, 63, 64, 65, math.MaxInt32, math.MaxInt - 8, math.MaxInt - 1, math.MaxInt}
}

// P1.1

func TestPutWrites(t *testing.T) {
	const n = 0x0807060504030201
	for width := 1; width <= 8; width++ {
		want := []byte{77, 1, 2, 3, 4, 5, 6, 7, 8}[:1+width]
		if got := bits.Put([]byte{77}, n, width); !bytes.Equal(got, want) {
			t.Errorf("P1.1: Put of width %d: %v, not %v", width, got, want)
		}
	}
	if got := bits.Put(nil, 258, 2); !bytes.Equal(got, []byte{2, 1}) {
		t.Errorf("P1.1: Put(nil, 258, 2): %v", got)
	}
	if got := bits.Put([]byte{}, math.MaxUint64, 8); !bytes.Equal(got, row(8)) {
		t.Errorf("P1.1: Put of the greatest: %v", got)
	}
	if got := bits.Put(nil, 256, 1); !bytes.Equal(got, []byte{0}) {
		t.Errorf("P1.1: what is above the width stays away: %v", got)
	}
}

func TestPutOfAnotherWidth(t *testing.T) {
	for _, width := range oddPlaces() {
		if width >= 1 && width <= 8 {
			continue
		}
		for _, b := range [][]byte{nil, {}, {0}, {3, 2, 1}} {
			if got := bits.Put(b, math.MaxUint64, width); !bytes.Equal(got, b) {
				t.Errorf("P1.1: Put(%v, .., %d): %v", b, width, got)
			}
		}
	}
}

func TestGetReads(t *testing.T) {
	b := []byte{0x11, 0x22, 0x33, 0x44, 0x55, 0x66, 0x77, 0x88, 0x99}
	for _, c := range []struct {
		at, width int
		want      uint64
	}{
		{0, 1, 0x11},
		{0, 2, 0x2211},
		{1, 3, 0x443322},
		{0, 8, 0x8877665544332211},
		{1, 8, 0x9988776655443322},
		{7, 2, 0x9988},
		{8, 1, 0x99},
	} {
		if got, ok := bits.Get(b, c.at, c.width); got != c.want || !ok {
			t.Errorf("P1.1: Get at %d, width %d: %#x, %v", c.at, c.width, got, ok)
		}
	}
	if got, ok := bits.Get(row(8), 0, 8); got != math.MaxUint64 || !ok {
		t.Errorf("P1.1: Get of the greatest: %d, %v", got, ok)
	}
}

func TestGetOfWhatIsNotThere(t *testing.T) {
	for _, b := range [][]byte{nil, {}, {1}, row(8), row(9), row(20)} {
		for _, at := range oddPlaces() {
			for _, width := range oddPlaces() {
				there := width >= 1 && width <= 8 && at >= 0 && at <= len(b) && len(b)-at >= width
				got, ok := bits.Get(b, at, width)
				if ok != there {
					t.Errorf("P1.1: Get of %d bytes at %d, width %d: %v", len(b), at, width, ok)
				}
				if !ok && got != 0 {
					t.Errorf("R3: Get of %d bytes at %d, width %d: %d beside a false", len(b), at, width, got)
				}
			}
		}
	}
}

func TestGetLeavesSpareRoomAlone(t *testing.T) {
	b := row(9)
	for _, l := range []int{0, 1, 7} {
		if got, ok := bits.Get(b[:l], 0, l+1); ok || got != 0 {
			t.Errorf("R5: Get read behind %d bytes: %d", l, got)
		}
	}
}

// P1.2

func TestVarWrites(t *testing.T) {
	for _, c := range []struct {
		n    int
		want []byte
	}{
		{math.MinInt, []byte{0}},
		{-300, []byte{0}},
		{-1, []byte{0}},
		{0, []byte{0}},
		{1, []byte{1}},
		{127, []byte{127}},
		{128, []byte{128, 1}},
		{255, []byte{255, 1}},
		{300, []byte{172, 2}},
		{16383, []byte{255, 127}},
		{16384, []byte{128, 128, 1}},
		{1 << 55, []byte{128, 128, 128, 128, 128, 128, 128, 64}},
		{1<<56 - 1, row(7, 127)},
		{1 << 56, []byte{128, 128, 128, 128, 128, 128, 128, 128, 1}},
		{math.MaxInt, row(8, 127)},
	} {
		for _, head := range [][]byte{nil, {}, {9}, {128, 128}} {
			want := append(bytes.Clone(head), c.want...)
			if got := bits.Var(head, c.n); !bytes.Equal(got, want) {
				t.Errorf("P1.2: Var(%v, %d): %v", head, c.n, got)
			}
		}
	}
}

func TestGetVarReads(t *testing.T) {
	for _, c := range []struct {
		b    []byte
		at   int
		n    int
		next int
	}{
		{[]byte{0}, 0, 0, 1},
		{[]byte{0, 0}, 1, 0, 2},
		{[]byte{127, 9}, 0, 127, 1},
		{[]byte{172, 2}, 0, 300, 2},
		{[]byte{172, 2}, 1, 2, 2},
		{[]byte{128, 1, 0}, 0, 128, 2},
		{[]byte{128, 128, 1}, 0, 16384, 3},
		{[]byte{5, 128, 128, 1, 5}, 1, 16384, 4},
		{row(8, 1), 0, 1<<57 - 1, 9},
		{row(8, 127), 0, math.MaxInt, 9},
		{row(8, 127, 255), 0, math.MaxInt, 9},
	} {
		if n, next, ok := bits.GetVar(c.b, c.at); n != c.n || next != c.next || !ok {
			t.Errorf("P1.2: GetVar(%v, %d): %d, %d, %v", c.b, c.at, n, next, ok)
		}
	}
}

func TestGetVarOfWhatIsNone(t *testing.T) {
	for name, b := range map[string][]byte{
		"nil":                                 nil,
		"empty":                               {},
		"one byte that goes on":               {128},
		"eight that go on":                    row(8),
		"nine that go on":                     row(9),
		"two, the last is 0":                  {128, 0},
		"three, the last is 0":                {255, 128, 0},
		"nine, the last is 0":                 row(8, 0),
		"ten":                                 row(9, 1),
		"ten, the last is 0":                  row(9, 0),
		"eleven":                              row(10, 1),
		"a hundred":                           row(99, 1),
		"two, the last is 0, a number behind": {129, 0, 1},
	} {
		if n, next, ok := bits.GetVar(b, 0); n != 0 || next != 0 || ok {
			t.Errorf("P1.2: GetVar of %s: %d, %d, %v", name, n, next, ok)
		}
		if s, next, ok := bits.GetText(b, 0, math.MaxInt); s != "" || next != 0 || ok {
			t.Errorf("P1.2: GetText of %s: %q, %d, %v", name, s, next, ok)
		}
	}
}

func TestGetVarOutside(t *testing.T) {
	b := []byte{1, 1, 1, 1}
	for _, at := range append(oddPlaces(), len(b), len(b)+1) {
		if at >= 0 && at < len(b) {
			continue
		}
		if n, next, ok := bits.GetVar(b, at); n != 0 || next != 0 || ok {
			t.Errorf("R5: GetVar at %d: %d, %d, %v", at, n, next, ok)
		}
		if s, next, ok := bits.GetText(b, at, 9); s != "" || next != 0 || ok {
			t.Errorf("R5: GetText at %d: %q, %d, %v", at, s, next, ok)
		}
	}
	cut := []byte{128, 1}
	if n, next, ok := bits.GetVar(cut[:1], 0); n != 0 || next != 0 || ok {
		t.Errorf("R5: GetVar read behind the end: %d, %d, %v", n, next, ok)
	}
}

func TestText(t *testing.T) {
	long := strings.Repeat("x", 300)
	for _, c := range []struct {
		s    string
		want string
	}{
		{"", "\x00"},
		{"abc", "\x03abc"},
		{"\x00\xff\x80", "\x03\x00\xff\x80"},
		{"ü", "\x02\xc3\xbc"},
		{long[:127], "\x7f" + long[:127]},
		{long[:128], "\x80\x01" + long[:128]},
		{long, "\xac\x02" + long},
	} {
		for _, head := range [][]byte{nil, {}, {7, 200}} {
			got := bits.Text(head, c.s)
			if string(got) != string(head)+c.want {
				t.Errorf("P1.2: Text(%v, %q): %q", head, c.s, got)
			}
			s, next, ok := bits.GetText(append(got, 1, 2), len(head), len(c.s))
			if s != c.s || next != len(got) || !ok {
				t.Errorf("P1.4: GetText back of %q: %q, %d, %v", c.s, s, next, ok)
			}
		}
	}
}

func TestGetText(t *testing.T) {
	b := []byte("\x07\x03abc\x00")
	vast := append(row(8, 127), "abc"...)
	for i, c := range []struct {
		b        []byte
		at, most int
		want     string
		next     int
		ok       bool
	}{
		{b, 1, 3, "abc", 5, true},
		{b, 1, 4, "abc", 5, true},
		{b, 1, math.MaxInt, "abc", 5, true},
		{b, 1, 2, "", 0, false},
		{b, 1, 0, "", 0, false},
		{b, 1, -1, "", 0, false},
		{b, 1, math.MinInt, "", 0, false},
		{b, 5, 0, "", 6, true},
		{b, 5, 9, "", 6, true},
		{b, 5, -1, "", 0, false},
		{b, 0, 9, "", 0, false},
		{b[:5], 1, 3, "abc", 5, true},
		{b[:4], 1, 3, "", 0, false},
		{b[:2], 1, 3, "", 0, false},
		{b[:1], 1, 3, "", 0, false},
		{b, 6, 3, "", 0, false},
		{b, 7, 3, "", 0, false},
		{vast, 0, math.MaxInt, "", 0, false},
		{vast, 0, math.MaxInt - 1, "", 0, false},
		{[]byte{131, 0, 'a', 'b', 'c'}, 0, 9, "", 0, false},
	} {
		if s, next, ok := bits.GetText(c.b, c.at, c.most); s != c.want || next != c.next || ok != c.ok {
			t.Errorf("P1.2: GetText, case %d: %q, %d, %v", i, s, next, ok)
		}
	}
}

// P1.3

func TestMask(t *testing.T) {
	want := uint64(0)
	for k := 0; k <= 64; k++ {
		if got := bits.Mask(k); got != want {
			t.Errorf("P1.3: Mask(%d): %#x, not %#x", k, got, want)
		}
		want = want*2 + 1
	}
	for _, k := range oddPlaces() {
		if k < 0 && bits.Mask(k) != 0 || k > 64 && bits.Mask(k) != math.MaxUint64 {
			t.Errorf("P1.3: Mask(%d): %#x", k, bits.Mask(k))
		}
	}
}

// slowCut is Cut in numbers that know no width: n divided by 2^at, and the rest of that by 2^width.
func slowCut(n uint64, at, width int) uint64 {
	at, width = min(max(at, 0), 64), min(max(width, 0), 64)
	down := new(big.Int).Rsh(new(big.Int).SetUint64(n), uint(at))
	return new(big.Int).Mod(down, new(big.Int).Lsh(big.NewInt(1), uint(width))).Uint64()
}

func TestCut(t *testing.T) {
	for _, n := range []uint64{0, 1, 0xF5, 1 << 63, math.MaxUint64, 0x123456789ABCDEF0} {
		for _, at := range oddPlaces() {
			for _, width := range oddPlaces() {
				if got, want := bits.Cut(n, at, width), slowCut(n, at, width); got != want {
					t.Errorf("P1.3: Cut(%#x, %d, %d): %#x, not %#x", n, at, width, got, want)
				}
			}
		}
	}
	if got := bits.Cut(math.MaxUint64, 64, 64); got != 0 {
		t.Errorf("P1.3: Cut by 64: %d", got)
	}
	if got := bits.Cut(0xABCD, 4, 8); got != 0xBC {
		t.Errorf("P1.3: Cut of the middle: %#x", got)
	}
}

func TestLog(t *testing.T) {
	for place := 0; place <= 62; place++ {
		low := 1 << place
		for _, n := range []int{low, low + low/2, low + (low - 1)} {
			if got := bits.Log(n); got != place {
				t.Errorf("P1.3: Log(%d): %d, not %d", n, got, place)
			}
		}
	}
	for _, n := range []int{0, -1, -2, -8, math.MinInt32, math.MinInt} {
		if got := bits.Log(n); got != -1 {
			t.Errorf("P1.3: Log(%d): %d", n, got)
		}
	}
}

func TestZigZag(t *testing.T) {
	for _, c := range []struct {
		n    int
		want uint64
	}{
		{0, 0},
		{-1, 1},
		{1, 2},
		{-2, 3},
		{2, 4},
		{-64, 127},
		{64, 128},
		{math.MaxInt - 1, math.MaxUint64 - 3},
		{math.MinInt + 1, math.MaxUint64 - 2},
		{math.MaxInt, math.MaxUint64 - 1},
		{math.MinInt, math.MaxUint64},
	} {
		if got := bits.Zig(c.n); got != c.want {
			t.Errorf("P1.3: Zig(%d): %d, not %d", c.n, got, c.want)
		}
		if got := bits.Zag(c.want); got != c.n {
			t.Errorf("P1.3: Zag(%d): %d, not %d", c.want, got, c.n)
		}
	}
	for u := range uint64(2000) {
		for _, v := range []uint64{u, math.MaxUint64 - u, 1<<63 - 1000 + u} {
			if bits.Zig(bits.Zag(v)) != v {
				t.Errorf("P1.3: Zag(%d): %d, and back %d", v, bits.Zag(v), bits.Zig(bits.Zag(v)))
			}
		}
	}
}

// P1.4

func TestWhatIsPutIsGot(t *testing.T) {
	r := rand.New(rand.NewSource(14))
	for range 4000 {
		var b []byte
		var checks []func(b []byte) bool
		noise := make([]byte, r.Intn(5))
		r.Read(noise)
		b = append(b, noise...)
		for range 1 + r.Intn(8) {
			n, width, at := r.Uint64()>>r.Intn(64), 1+r.Intn(8), len(b)
			word := make([]byte, r.Intn(200)>>r.Intn(8))
			r.Read(word)
			switch r.Intn(3) {
			case 0:
				b = bits.Put(b, n, width)
				checks = append(checks, func(b []byte) bool {
					got, ok := bits.Get(b, at, width)
					return ok && got == n&bits.Mask(8*width)
				})
			case 1:
				b = bits.Var(b, int(n>>1))
				next := len(b)
				checks = append(checks, func(b []byte) bool {
					got, to, ok := bits.GetVar(b, at)
					return ok && got == int(n>>1) && to == next
				})
			case 2:
				b = bits.Text(b, string(word))
				next := len(b)
				checks = append(checks, func(b []byte) bool {
					got, to, ok := bits.GetText(b, at, len(word))
					return ok && got == string(word) && to == next
				})
			}
		}
		r.Read(noise)
		b = append(b, noise...)
		for i, right := range checks {
			if !right(b) {
				t.Fatalf("P1.4: the %dth of %v isn't got as it was put", i, b)
			}
		}
	}
}

// TestVarHasOneSpelling: whatever GetVar takes, Var writes again byte by byte.
func TestVarHasOneSpelling(t *testing.T) {
	r := rand.New(rand.NewSource(12))
	for range 20000 {
		b := make([]byte, r.Intn(12))
		for i := range b {
			b[i] = []byte{0, 1, 127, 128, 129, 255, byte(r.Intn(256))}[r.Intn(7)]
		}
		at := r.Intn(len(b) + 1)
		n, next, ok := bits.GetVar(b, at)
		if ok && !bytes.Equal(bits.Var(b[:at], n), b[:next]) {
			t.Fatalf("P1.2: GetVar(%v, %d): %d, %d: not what Var writes", b, at, n, next)
		}
		if ok && n < 0 || !ok && (n != 0 || next != 0) {
			t.Fatalf("P1.2: GetVar(%v, %d): %d, %d, %v", b, at, n, next, ok)
		}
	}
}

// R2

// writers are the calls that answer a list, each on what is handed in.
func writers() map[string]func(b []byte) []byte {
	return map[string]func(b []byte) []byte{
		"Put":                    func(b []byte) []byte { return bits.Put(b, math.MaxUint64, 8) },
		"Put of width 1":         func(b []byte) []byte { return bits.Put(b, 255, 1) },
		"Put of width 0":         func(b []byte) []byte { return bits.Put(b, 255, 0) },
		"Put of width 9":         func(b []byte) []byte { return bits.Put(b, 255, 9) },
		"Var":                    func(b []byte) []byte { return bits.Var(b, math.MaxInt) },
		"Var below 0":            func(b []byte) []byte { return bits.Var(b, -1) },
		"Text":                   func(b []byte) []byte { return bits.Text(b, "abc") },
		"Text of nothing":        func(b []byte) []byte { return bits.Text(b, "") },
		"Text of many letters":   func(b []byte) []byte { return bits.Text(b, strings.Repeat("a", 200)) },
		"Put of the least width": func(b []byte) []byte { return bits.Put(b, 255, math.MinInt) },
	}
}

func TestAnswersAreNewMemory(t *testing.T) {
	for name, write := range writers() {
		room := bytes.Repeat([]byte{42}, 600)
		kept := bytes.Clone(room)
		for _, l := range []int{0, 1, 5} {
			got := write(room[:l])
			if !bytes.Equal(room, kept) {
				t.Errorf("R2: %s wrote into what was handed in, or its spare room", name)
			}
			got = got[:cap(got)]
			for i := range got {
				got[i] = 13
			}
			if !bytes.Equal(room, kept) {
				t.Errorf("R2: the answer of %s shares memory with what was handed in", name)
			}
			first, second := write(room[:l]), write(room[:l])
			clear(first[:cap(first)])
			if !bytes.Equal(second, write(room[:l])) {
				t.Errorf("R2: two answers of %s share memory", name)
			}
		}
	}
}

func TestGetTextIsNotTheBytes(t *testing.T) {
	b := []byte("\x03abc")
	s, _, _ := bits.GetText(b, 0, 3)
	b[1] = 'x'
	if s != "abc" {
		t.Errorf("R2: the text changes with the bytes: %q", s)
	}
}

// R4

func TestNilIsEmpty(t *testing.T) {
	for name, write := range writers() {
		if !bytes.Equal(write(nil), write([]byte{})) {
			t.Errorf("R4: %s tells nil from an empty list", name)
		}
	}
}
