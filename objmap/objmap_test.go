package objmap_test

import (
	"bytes"
	"fmt"
	"math"
	"math/rand"
	"slices"
	"testing"

	"hectograph/api"
	"hectograph/objmap"
)

// far is numbers that are nowhere near a limit, those among them whose lowest bits are a number that may be, or which an addition may carry over the edge.
func far() []int {
	return []int{math.MinInt, math.MinInt + 1, math.MinInt + 2, math.MinInt + 4, math.MinInt + 512, math.MinInt + 513, math.MinInt32, -1 << 32, -512, -256, -4, -3, -2, 1 << 8, 1<<8 + 1, 1<<8 + 2, 1<<16 + 1, 1<<32 + 1, 1<<32 + 2, 1<<32 + 4, 1 << 62, 1<<62 + 2, math.MaxInt - 512, math.MaxInt - 3, math.MaxInt - 2, math.MaxInt - 1, math.MaxInt}
}

// edges is numbers at all edges that the document names, just beyond them, and far off.
func edges() []int {
	return append(far(), -1, 0, 1, 2, 3, 4, 5, 7, 8, 9, 255, 256, 257, 510, 511, 512, 513, 514, 1023, 1024, 2048)
}

// strange is states that aren't any of the three: next to them, such as are one of them in their lowest bits, and far off.
func strange() []int {
	return append(far(), -1, 3, 4, 5, 6, 7, 8, 9, 64, 127, 128, 255, 257, 258)
}

// row is n states, drawn by that rule from the three.
func row(n int) []int {
	l := make([]int, n)
	for i := range l {
		l[i] = (i*i + i/3 + 1) % 3
	}
	return l
}

// alike is n times that state.
func alike(n, state int) []int {
	return slices.Repeat([]int{state}, n)
}

// short is all lists of up to most of those states.
func short(most int, states ...int) [][]int {
	all := [][]int{nil}
	last := all
	for range most {
		var next [][]int
		for _, l := range last {
			for _, state := range states {
				next = append(next, append(slices.Clone(l), state))
			}
		}
		all, last = append(all, next...), next
	}
	return all
}

// right is lists that are maps, the edges among them.
func right() [][]int {
	all := append(short(5, 0, 1, 2), []int{})
	for _, n := range []int{6, 7, 8, 9, 15, 16, 17, 255, 256, 257, 509, 510, 511, 512} {
		all = append(all, row(n), alike(n, api.Bare), alike(n, api.Live), alike(n, api.Clean))
	}
	return all
}

// crooked is lists that are no maps: a state that is none, in each place of a byte, alone and beside others; and too many.
func crooked() [][]int {
	all := [][]int{row(513), row(514), row(516), alike(513, api.Bare), alike(513, api.Live), alike(1024, api.Clean), row(1 << 16), alike(513, 3), alike(600, -1)}
	for _, state := range strange() {
		for n := 1; n <= 9; n++ {
			for i := range n {
				l := row(n)
				l[i] = state
				all = append(all, l)
			}
		}
		l := row(512)
		l[511] = state
		all = append(all, alike(1, state), alike(2, state), alike(4, state), alike(5, state), alike(512, state), l)
	}
	return all
}

// byHand is a map in bytes, by products and sums: the states of a byte are its figures to the base of four, the first the last one of them.
func byHand(l []int) []byte {
	var b []byte
	for i := 0; i < len(l); i += 4 {
		n, times := 0, 1
		for _, state := range l[i:min(i+4, len(l))] {
			n += state * times
			times *= 4
		}
		b = append(b, byte(n))
	}
	return b
}

// tell is a list as text, cut where it is long.
func tell(l []int) string {
	if len(l) > 40 {
		return fmt.Sprint(len(l), " states: ", l[:40], "...")
	}
	return fmt.Sprint(l)
}

// isRight fails the test, unless Right answers that.
func isRight(t *testing.T, l []int, want bool) {
	t.Helper()
	if got := objmap.Right(l); got != want {
		t.Errorf("P13.1: Right of %s: %v", tell(l), got)
	}
}

// isPut fails the test, unless Put answers just those bytes.
func isPut(t *testing.T, l []int, want ...byte) {
	t.Helper()
	if b, why := objmap.Put(l); why != api.OK || !bytes.Equal(b, want) {
		t.Errorf("P13.1: Put of %s: %v, %v, not %v", tell(l), b, why, want)
	}
}

// isNoPut fails the test, unless Put refuses.
func isNoPut(t *testing.T, l []int) {
	t.Helper()
	if b, why := objmap.Put(l); why != api.ErrArg || len(b) > 0 {
		t.Errorf("P13.1, R3: Put of %s: %v, %v, not ErrArg", tell(l), b, why)
	}
}

// isGet fails the test, unless Get answers just those states.
func isGet(t *testing.T, b []byte, n int, want ...int) {
	t.Helper()
	if l, why := objmap.Get(b, n); why != api.OK || !slices.Equal(l, want) {
		t.Errorf("P13.1: Get of %v, %d: %s, %v, not %s", b, n, tell(l), why, tell(want))
	}
}

// isNoGet fails the test, unless Get refuses so.
func isNoGet(t *testing.T, b []byte, n int, want api.Errno) {
	t.Helper()
	if l, why := objmap.Get(b, n); why != want || len(l) > 0 {
		t.Errorf("P13.1, R3: Get of %d bytes, %v.., %d: %s, %v, not %v", len(b), b[:min(len(b), 9)], n, tell(l), why, want)
	}
}

// isAt fails the test, unless At answers that.
func isAt(t *testing.T, l []int, i, want int) {
	t.Helper()
	if got := objmap.At(l, i); got != want {
		t.Errorf("P13.2: At of %s, %d: %d, not %d", tell(l), i, got, want)
	}
}

// isTurn fails the test, unless Turn answers just those states.
func isTurn(t *testing.T, l []int, i, to int, want ...int) {
	t.Helper()
	if got := objmap.Turn(l, i, to); !slices.Equal(got, want) {
		t.Errorf("P13.2: Turn of %s, %d, %d: %s, not %s", tell(l), i, to, tell(got), tell(want))
	}
}

// isSize fails the test, unless Size answers just those states.
func isSize(t *testing.T, l []int, n int, want ...int) {
	t.Helper()
	if got := objmap.Size(l, n); !slices.Equal(got, want) {
		t.Errorf("P13.2: Size of %s, %d: %s, not %s", tell(l), n, tell(got), tell(want))
	}
}

// isFreeze fails the test, unless Freeze answers just those states.
func isFreeze(t *testing.T, l []int, want ...int) {
	t.Helper()
	if got := objmap.Freeze(l); !slices.Equal(got, want) {
		t.Errorf("P13.2: Freeze of %s: %s, not %s", tell(l), tell(got), tell(want))
	}
}

// isDiff fails the test, unless Diff answers just those objects.
func isDiff(t *testing.T, elder, later []int, want ...int) {
	t.Helper()
	if got := objmap.Diff(elder, later); !slices.Equal(got, want) {
		t.Errorf("P13.2: Diff of %s, %s: %s, not %s", tell(elder), tell(later), tell(got), tell(want))
	}
}

// P13.1: Right

func TestRight(t *testing.T) {
	for _, l := range right() {
		isRight(t, l, true)
	}
	for _, l := range crooked() {
		isRight(t, l, false)
	}
}

func TestRightOfEachState(t *testing.T) {
	for state := -600; state <= 600; state++ {
		for n := 1; n <= 5; n++ {
			for i := range n {
				l := row(n)
				l[i] = state
				isRight(t, l, state == api.Bare || state == api.Live || state == api.Clean)
			}
		}
	}
}

func TestRightOfEachLength(t *testing.T) {
	for n := range 1200 {
		isRight(t, row(n), n <= api.MaxSize)
	}
}

// P13.1: Put

func TestPutByHand(t *testing.T) {
	// The run.
	isPut(t, []int{api.Live, api.Clean}, 9)
	// None.
	isPut(t, nil)
	isPut(t, []int{})
	// Each state in each place of a byte.
	isPut(t, []int{1}, 1)
	isPut(t, []int{2}, 2)
	isPut(t, []int{0, 1}, 4)
	isPut(t, []int{0, 2}, 8)
	isPut(t, []int{0, 0, 1}, 16)
	isPut(t, []int{0, 0, 2}, 32)
	isPut(t, []int{0, 0, 0, 1}, 64)
	isPut(t, []int{0, 0, 0, 2}, 128)
	// Bare ones take room as the others do.
	isPut(t, []int{0}, 0)
	isPut(t, []int{0, 0, 0, 0}, 0)
	isPut(t, []int{1, 0, 0}, 1)
	isPut(t, []int{0, 0, 0, 0, 0}, 0, 0)
	isPut(t, []int{0, 0, 0, 0, 1}, 0, 1)
	// Bytes that are full, and those that aren't.
	isPut(t, []int{1, 2, 1}, 25)
	isPut(t, []int{1, 1, 1, 1}, 85)
	isPut(t, []int{2, 2, 2, 2}, 170)
	isPut(t, []int{1, 2, 0, 2}, 137)
	isPut(t, []int{2, 2, 2, 2, 2}, 170, 2)
	isPut(t, []int{1, 1, 1, 1, 2, 0, 1, 2}, 85, 146)
	isPut(t, []int{0, 1, 2, 0, 0, 2, 1, 0, 1}, 36, 24, 1)
	// The greatest.
	isPut(t, alike(512, api.Live), bytes.Repeat([]byte{85}, 128)...)
	isPut(t, alike(512, api.Clean), bytes.Repeat([]byte{170}, 128)...)
	isPut(t, alike(511, api.Clean), append(bytes.Repeat([]byte{170}, 127), 42)...)
	isPut(t, alike(512, api.Bare), make([]byte, 128)...)
}

func TestPutOfEachMap(t *testing.T) {
	for _, l := range append(right(), short(9, 0, 1, 2)...) {
		isPut(t, l, byHand(l)...)
	}
	for n := range 513 {
		isPut(t, row(n), byHand(row(n))...)
		if b, _ := objmap.Put(row(n)); len(b) != (n+3)/4 {
			t.Errorf("P13.1: Put of %d states: %d bytes", n, len(b))
		}
	}
}

func TestPutOfWhatIsNoMap(t *testing.T) {
	for _, l := range crooked() {
		isNoPut(t, l)
	}
	for n := 513; n < 1200; n++ {
		isNoPut(t, row(n))
	}
}

// P13.1: Get

func TestGetByHand(t *testing.T) {
	isGet(t, []byte{9}, 2, api.Live, api.Clean)
	isGet(t, nil, 0)
	isGet(t, []byte{}, 0)
	isGet(t, []byte{0}, 1, 0)
	isGet(t, []byte{0}, 4, 0, 0, 0, 0)
	isGet(t, []byte{9}, 3, 1, 2, 0)
	isGet(t, []byte{9}, 4, 1, 2, 0, 0)
	isGet(t, []byte{137}, 4, 1, 2, 0, 2)
	isGet(t, []byte{85, 1}, 5, 1, 1, 1, 1, 1)
	isGet(t, []byte{85, 146}, 8, 1, 1, 1, 1, 2, 0, 1, 2)
	isGet(t, []byte{36, 24, 1}, 9, 0, 1, 2, 0, 0, 2, 1, 0, 1)
	isGet(t, bytes.Repeat([]byte{170}, 128), 512, alike(512, api.Clean)...)
	isGet(t, append(bytes.Repeat([]byte{85}, 127), 21), 511, alike(511, api.Live)...)
	// A byte less, and a byte more.
	isNoGet(t, nil, 1, api.ErrForm)
	isNoGet(t, []byte{9}, 5, api.ErrForm)
	isNoGet(t, []byte{9}, 0, api.ErrForm)
	isNoGet(t, []byte{0}, 0, api.ErrForm)
	isNoGet(t, []byte{9, 0}, 2, api.ErrForm)
	isNoGet(t, []byte{9, 0}, 4, api.ErrForm)
	isNoGet(t, []byte{9, 0}, 9, api.ErrForm)
	isNoGet(t, make([]byte, 127), 512, api.ErrForm)
	isNoGet(t, make([]byte, 129), 512, api.ErrForm)
	// Two bits that are no state, in each place of a byte.
	isNoGet(t, []byte{3}, 1, api.ErrForm)
	isNoGet(t, []byte{12}, 2, api.ErrForm)
	isNoGet(t, []byte{48}, 3, api.ErrForm)
	isNoGet(t, []byte{192}, 4, api.ErrForm)
	isNoGet(t, []byte{0, 3}, 5, api.ErrForm)
	isNoGet(t, []byte{3, 0}, 5, api.ErrForm)
	// Bits behind the last state that aren't noughts.
	isNoGet(t, []byte{4}, 1, api.ErrForm)
	isNoGet(t, []byte{128}, 1, api.ErrForm)
	isNoGet(t, []byte{16}, 2, api.ErrForm)
	isNoGet(t, []byte{64}, 3, api.ErrForm)
	isNoGet(t, []byte{0, 4}, 5, api.ErrForm)
	isNoGet(t, []byte{85, 146}, 7, api.ErrForm)
	// An n that may not be, ahead of what b is.
	isNoGet(t, nil, -1, api.ErrArg)
	isNoGet(t, []byte{3}, -1, api.ErrArg)
	isNoGet(t, make([]byte, 129), 513, api.ErrArg)
	isNoGet(t, make([]byte, 128), 513, api.ErrArg)
	isNoGet(t, []byte{255}, 516, api.ErrArg)
}

// TestGetOfEachByte: of all bytes just those whose figures to the base of four are states, and noughts behind the last one.
func TestGetOfEachByte(t *testing.T) {
	for b := range 256 {
		for n := range 7 {
			figures := []int{b % 4, b / 4 % 4, b / 16 % 4, b / 64}
			is := n >= 1 && n <= 4
			for i, figure := range figures {
				is = is && figure < 3 && (i < n || figure == 0)
			}
			if is {
				isGet(t, []byte{byte(b)}, n, figures[:n]...)
			} else {
				isNoGet(t, []byte{byte(b)}, n, api.ErrForm)
			}
		}
	}
}

// TestGetOfTurnedBits: a bit that is turned makes another map's bytes, or none's.
func TestGetOfTurnedBits(t *testing.T) {
	for _, n := range []int{5, 8, 11, 510, 511, 512} {
		b := byHand(row(n))
		for bit := range 8 * len(b) {
			b[bit/8] ^= 1 << (bit % 8)
			i := bit / 2
			state := int(b[i/4]) / []int{1, 4, 16, 64}[i%4] % 4
			if i < n && state < 3 {
				l := row(n)
				l[i] = state
				isGet(t, b, n, l...)
			} else {
				isNoGet(t, b, n, api.ErrForm)
			}
			b[bit/8] ^= 1 << (bit % 8)
		}
	}
}

func TestGetOfEachLength(t *testing.T) {
	for n := range 513 {
		for size := range 135 {
			b := make([]byte, size)
			if size == (n+3)/4 {
				isGet(t, b, n, alike(n, api.Bare)...)
			} else {
				isNoGet(t, b, n, api.ErrForm)
			}
		}
		isNoGet(t, make([]byte, 1<<10), n, api.ErrForm)
	}
}

func TestGetOfEachNumber(t *testing.T) {
	for _, n := range append(edges(), -5, -6, -7, -8, 515, 516, 600) {
		if n >= 0 && n <= 512 {
			continue
		}
		for _, b := range [][]byte{nil, {}, {0}, {9}, {3}, {255}, make([]byte, 127), make([]byte, 128), make([]byte, 129), make([]byte, 1<<16)} {
			isNoGet(t, b, n, api.ErrArg)
		}
	}
	isNoGet(t, make([]byte, 1<<20), 512, api.ErrForm)
}

// P13.2: At

func TestAt(t *testing.T) {
	l := []int{1, 2, 0, 1}
	isAt(t, l, -1, api.Bare)
	isAt(t, l, 0, api.Live)
	isAt(t, l, 1, api.Clean)
	isAt(t, l, 2, api.Bare)
	isAt(t, l, 3, api.Live)
	isAt(t, l, 4, api.Bare)
	isAt(t, l, 5, api.Bare)
	isAt(t, nil, 0, api.Bare)
	// Of any list: what stands there, and as far as it goes.
	isAt(t, []int{9, -4}, 0, 9)
	isAt(t, []int{9, -4}, 1, -4)
	isAt(t, alike(600, 2), 511, 2)
	isAt(t, alike(600, 2), 512, 2)
	isAt(t, alike(600, 2), 599, 2)
	isAt(t, alike(600, 2), 600, api.Bare)
}

func TestAtOfEachPlace(t *testing.T) {
	for _, l := range append(right(), crooked()...) {
		l = l[:min(len(l), 600)]
		for i, want := range l {
			isAt(t, l, i, want)
		}
		for _, i := range append(edges(), -len(l), len(l), len(l)+1) {
			if i < 0 || i >= len(l) {
				isAt(t, l, i, api.Bare)
			}
		}
	}
}

// P13.2: Turn

func TestTurnByHand(t *testing.T) {
	l := []int{1, 2, 0, 1}
	isTurn(t, l, 0, api.Clean, 2, 2, 0, 1)
	isTurn(t, l, 0, api.Bare, 0, 2, 0, 1)
	isTurn(t, l, 1, api.Live, 1, 1, 0, 1)
	isTurn(t, l, 2, api.Clean, 1, 2, 2, 1)
	isTurn(t, l, 3, api.Bare, 1, 2, 0, 0)
	isTurn(t, l, 3, api.Live, 1, 2, 0, 1)
	// At the end and beyond it, to Bare too.
	isTurn(t, l, 4, api.Live, 1, 2, 0, 1, 1)
	isTurn(t, l, 4, api.Bare, 1, 2, 0, 1, 0)
	isTurn(t, l, 6, api.Clean, 1, 2, 0, 1, 0, 0, 2)
	isTurn(t, l, 6, api.Bare, 1, 2, 0, 1, 0, 0, 0)
	isTurn(t, l, 511, api.Live, append(append(slices.Clone(l), alike(507, api.Bare)...), 1)...)
	isTurn(t, l, 511, api.Bare, append(slices.Clone(l), alike(508, api.Bare)...)...)
	isTurn(t, nil, 0, api.Bare, 0)
	isTurn(t, nil, 2, api.Live, 0, 0, 1)
	// No such object, and no such state.
	isTurn(t, l, -1, api.Live, l...)
	isTurn(t, l, 512, api.Live, l...)
	isTurn(t, l, 512, api.Bare, l...)
	isTurn(t, l, 0, -1, l...)
	isTurn(t, l, 0, 3, l...)
	isTurn(t, l, 6, -1, l...)
	isTurn(t, l, 6, 3, l...)
	isTurn(t, nil, 0, 3)
	isTurn(t, nil, -1, 1)
	// Of any list: what isn't turned stays as it stands.
	isTurn(t, []int{9, -4}, 0, api.Live, 1, -4)
	isTurn(t, []int{9, -4}, 3, api.Live, 9, -4, 0, 1)
	isTurn(t, []int{9, -4}, 0, 9, 9, -4)
	many := alike(600, 2)
	isTurn(t, many, 599, api.Live, many...)
	isTurn(t, many, 512, api.Live, many...)
	isTurn(t, many, 511, api.Live, append(append(alike(511, 2), 1), alike(88, 2)...)...)
}

// TestTurnOfEachNumber: each list, each place and each state, against what the words say, one by one.
func TestTurnOfEachNumber(t *testing.T) {
	lists := [][]int{nil, {0}, {1}, {2}, {1, 2, 0, 1}, {9, -4, math.MaxInt}, row(8), row(511), row(512), row(513), row(600)}
	for _, l := range lists {
		for _, i := range append(edges(), len(l)-1, len(l), len(l)+1, len(l)+7) {
			for _, to := range append(edges(), strange()...) {
				want := slices.Clone(l)
				if i >= 0 && i < 512 && to >= 0 && to <= 2 {
					for len(want) <= i {
						want = append(want, 0)
					}
					want[i] = to
				}
				isTurn(t, l, i, to, want...)
			}
		}
	}
}

// P13.2: Size

func TestSizeByHand(t *testing.T) {
	l := []int{1, 2, 0, 1}
	isSize(t, l, -1)
	isSize(t, l, 0)
	isSize(t, l, 1, 1)
	isSize(t, l, 2, 1, 2)
	isSize(t, l, 3, 1, 2, 0)
	isSize(t, l, 4, l...)
	isSize(t, l, 5, 1, 2, 0, 1, 0)
	isSize(t, l, 9, 1, 2, 0, 1, 0, 0, 0, 0, 0)
	most := append(slices.Clone(l), alike(508, api.Bare)...)
	isSize(t, l, 511, most[:511]...)
	isSize(t, l, 512, most...)
	isSize(t, l, 513, most...)
	isSize(t, nil, 0)
	isSize(t, nil, 3, 0, 0, 0)
	// Of any list: what stands there stays; and none of it beyond MaxSize.
	isSize(t, []int{9, -4, 7}, 2, 9, -4)
	isSize(t, []int{9, -4}, 3, 9, -4, 0)
	isSize(t, alike(600, 2), 512, alike(512, 2)...)
	isSize(t, alike(600, 2), 513, alike(512, 2)...)
	isSize(t, alike(600, 2), 600, alike(512, 2)...)
	isSize(t, alike(600, 2), 511, alike(511, 2)...)
}

func TestSizeOfEachNumber(t *testing.T) {
	for _, l := range [][]int{nil, {0}, {1}, {2}, {1, 2, 0, 1}, {9, -4, math.MaxInt}, row(8), row(511), row(512), row(513), row(600)} {
		for _, n := range append(edges(), -len(l), len(l)-1, len(l), len(l)+1) {
			var want []int
			for i := 0; i < n && i < 512; i++ {
				if i < len(l) {
					want = append(want, l[i])
				} else {
					want = append(want, 0)
				}
			}
			isSize(t, l, n, want...)
		}
	}
}

// P13.2: Freeze

func TestFreeze(t *testing.T) {
	isFreeze(t, nil)
	isFreeze(t, []int{})
	isFreeze(t, []int{1}, 2)
	isFreeze(t, []int{0}, 0)
	isFreeze(t, []int{2}, 2)
	isFreeze(t, []int{1, 2, 0, 1}, 2, 2, 0, 2)
	isFreeze(t, alike(512, api.Live), alike(512, api.Clean)...)
	isFreeze(t, alike(600, api.Live), alike(600, api.Clean)...)
	// What isn't any of the three stays.
	isFreeze(t, []int{7, 1}, 7, 2)
	isFreeze(t, []int{-1, 3, 1, 5, 257}, -1, 3, 2, 5, 257)
	for _, state := range strange() {
		isFreeze(t, []int{state, 1, state, 0, 1}, state, 2, state, 0, 2)
	}
}

func TestFreezeOfEachMap(t *testing.T) {
	for _, l := range append(right(), crooked()...) {
		want := slices.Clone(l)
		for i := range want {
			if want[i] == 1 {
				want[i] = 2
			}
		}
		isFreeze(t, l, want...)
	}
}

// P13.2: Diff

func TestDiffByHand(t *testing.T) {
	// Each state against each other one: Live in later always, Live in elder alone never.
	isDiff(t, []int{0}, []int{0})
	isDiff(t, []int{0}, []int{1}, 0)
	isDiff(t, []int{0}, []int{2}, 0)
	isDiff(t, []int{1}, []int{0}, 0)
	isDiff(t, []int{1}, []int{1}, 0)
	isDiff(t, []int{1}, []int{2})
	isDiff(t, []int{2}, []int{0}, 0)
	isDiff(t, []int{2}, []int{1}, 0)
	isDiff(t, []int{2}, []int{2})
	// None.
	isDiff(t, nil, nil)
	isDiff(t, []int{}, nil)
	// Unlike lengths, from both sides: behind its end each is Bare.
	isDiff(t, nil, []int{0, 1, 2}, 1, 2)
	isDiff(t, []int{0, 1, 2}, nil, 1, 2)
	isDiff(t, nil, []int{0, 0})
	isDiff(t, []int{0, 0}, nil)
	isDiff(t, []int{2, 2}, []int{2, 2, 0, 2, 0, 1}, 3, 5)
	isDiff(t, []int{2, 2, 0, 2, 0, 1}, []int{2, 2}, 3, 5)
	isDiff(t, []int{0, 1, 2, 0, 2}, []int{2, 0, 2, 1}, 0, 1, 3, 4)
	// Of itself: what is Live.
	l := []int{1, 2, 0, 1}
	isDiff(t, l, l, 0, 3)
	isDiff(t, l, objmap.Freeze(l))
	isDiff(t, objmap.Freeze(l), l, 0, 3)
	// Of any list: a state that isn't any of the three is neither Live nor Bare, and none is too far.
	isDiff(t, []int{9, -4, 0, 3}, []int{-4, 2, 3, 0}, 2, 3)
	isDiff(t, []int{3}, []int{1}, 0)
	isDiff(t, []int{1}, []int{3})
	isDiff(t, alike(600, 2), alike(512, 2), series(512, 600)...)
	isDiff(t, alike(511, 2), alike(600, 2), series(511, 600)...)
	isDiff(t, nil, alike(600, 1), series(0, 600)...)
}

// series is the numbers from the first on to the one ahead of the second.
func series(from, to int) []int {
	var l []int
	for i := from; i < to; i++ {
		l = append(l, i)
	}
	return l
}

// TestDiffOfEachPair: each short list against each, by a table of what two states come to.
func TestDiffOfEachPair(t *testing.T) {
	// By what elder has, then by what later has: Bare, Live, Clean, something else.
	unlike := [4][4]bool{
		{false, true, true, true},
		{true, true, false, false},
		{true, true, false, false},
		{true, true, false, false},
	}
	all := short(3, 0, 1, 2, 3)
	for _, elder := range all {
		for _, later := range all {
			var want []int
			for i := range 3 {
				was, is := 0, 0
				if i < len(elder) {
					was = elder[i]
				}
				if i < len(later) {
					is = later[i]
				}
				if unlike[was][is] {
					want = append(want, i)
				}
			}
			isDiff(t, elder, later, want...)
		}
	}
	for _, state := range strange() {
		for other, want := range unlike[3] {
			isDiff(t, []int{state}, []int{other}, series(0, map[bool]int{true: 1}[want])...)
			isDiff(t, []int{other}, []int{state}, series(0, map[bool]int{true: 1}[unlike[other][3]])...)
		}
		isDiff(t, []int{state}, []int{-state - 9})
	}
}

// P13.3: what follows

// drawn is a map of up to most states.
func drawn(r *rand.Rand, most int) []int {
	l := make([]int, r.Intn(most+1))
	for i := range l {
		l[i] = r.Intn(3)
	}
	return l
}

func TestGetOfPutIsIt(t *testing.T) {
	r := rand.New(rand.NewSource(31))
	lists := append(right(), short(9, 0, 1, 2)...)
	for range 3000 {
		lists = append(lists, drawn(r, 30), drawn(r, 512))
	}
	for _, l := range lists {
		b, why := objmap.Put(l)
		if why != api.OK {
			t.Fatalf("P13.3: Put of %s: %v", tell(l), why)
		}
		isGet(t, b, len(l), l...)
	}
}

// TestPutOfGetIsIt: no two rows of bytes are one map, whatever bytes they are.
func TestPutOfGetIsIt(t *testing.T) {
	r := rand.New(rand.NewSource(32))
	taken := 0
	for range 40000 {
		b := make([]byte, r.Intn(4))
		for i := range b {
			b[i] = byte(r.Intn(256))
		}
		n := r.Intn(14)
		l, why := objmap.Get(b, n)
		if why == api.OK {
			taken++
			isPut(t, l, b...)
		}
		if why == api.OK && len(l) != n || why != api.OK && why != api.ErrForm {
			t.Fatalf("P13.1: Get of %v, %d: %v, %v", b, n, l, why)
		}
	}
	if taken < 200 {
		t.Errorf("the test's own rows: of %d alone there is a map", taken)
	}
}

func TestDiffOfAFrozenMapWithItselfIsNone(t *testing.T) {
	r := rand.New(rand.NewSource(33))
	lists := append(right(), crooked()...)
	for range 2000 {
		lists = append(lists, drawn(r, 40))
	}
	for _, l := range lists {
		frozen := objmap.Freeze(l)
		if d := objmap.Diff(frozen, frozen); len(d) > 0 {
			t.Errorf("P13.3: Diff of %s with itself: %v", tell(frozen), d)
		}
		if d := objmap.Diff(l, frozen); len(d) > 0 {
			t.Errorf("P13.2: Diff of %s, and it frozen: %v", tell(l), d)
		}
	}
}

// TestWhatIsTurnedBehindASnapshotIsTold: whatever was made, changed or dropped since a map was frozen is in Diff, and nothing else.
func TestWhatIsTurnedBehindASnapshotIsTold(t *testing.T) {
	r := rand.New(rand.NewSource(34))
	for range 3000 {
		elder := objmap.Freeze(drawn(r, 20))
		later := elder
		for range r.Intn(6) {
			i := r.Intn(24)
			later = objmap.Turn(later, i, r.Intn(2))
		}
		if r.Intn(3) == 0 {
			later = objmap.Size(later, r.Intn(30))
		}
		want := map[int]int{}
		for i := range 30 {
			if was, is := objmap.At(elder, i), objmap.At(later, i); was != is {
				want[i]++
			}
		}
		got := objmap.Diff(elder, later)
		for i, n := range got {
			if want[n] != 1 || i > 0 && got[i-1] >= n {
				t.Fatalf("P13.2: Diff of %v, %v: %v", elder, later, got)
			}
		}
		if len(got) != len(want) {
			t.Fatalf("P13.2: Diff of %v, %v: %v", elder, later, got)
		}
	}
}

// TestDeedsInARow: At tells after each Turn, Size and Freeze what a plain table of all objects tells, and the list stays a map.
func TestDeedsInARow(t *testing.T) {
	r := rand.New(rand.NewSource(35))
	for range 60 {
		var l []int
		var plain [512]int
		for range 200 {
			switch i, to := r.Intn(530)-9, r.Intn(5)-1; r.Intn(8) {
			case 0:
				l = objmap.Size(l, i)
				clear(plain[max(0, min(i, 512)):])
			case 1:
				l = objmap.Freeze(l)
				for k, state := range plain {
					plain[k] = []int{0, 2, 2}[state]
				}
			default:
				l = objmap.Turn(l, i, to)
				if i >= 0 && i < 512 && to >= 0 && to < 3 {
					plain[i] = to
				}
			}
			isRight(t, l, true)
			for k, want := range plain {
				isAt(t, l, k, want)
			}
		}
	}
}

// The rules that hold everywhere

func TestExamples(t *testing.T) {
	isAt(t, nil, 3, api.Bare)
	isAt(t, []int{}, 3, api.Bare)
	isNoGet(t, nil, 1, api.ErrForm)
	isNoGet(t, []byte{}, 1, api.ErrForm)
}

// calls calls each function with those.
func calls(l, m []int, b []byte, i, to int) {
	objmap.Right(l)
	objmap.Put(l)
	objmap.Get(b, i)
	objmap.At(l, i)
	objmap.Turn(l, i, to)
	objmap.Size(l, i)
	objmap.Freeze(l)
	objmap.Diff(l, m)
	objmap.Diff(m, l)
}

func TestNothingPanics(t *testing.T) {
	lists := [][]int{nil, {}, {0}, {3}, {-1}, {math.MinInt, math.MaxInt}, row(5), row(512), row(513), alike(2000, math.MaxInt)}
	rows := [][]byte{nil, {}, {0}, {255}, {255, 255, 255}, make([]byte, 128), bytes.Repeat([]byte{255}, 128), make([]byte, 129)}
	for _, i := range edges() {
		for _, to := range edges() {
			for n, l := range lists {
				calls(l, lists[(n+3)%len(lists)], rows[n%len(rows)], i, to)
			}
		}
		for _, b := range rows {
			calls(row(3), row(7), b, i, i)
		}
	}
	calls(row(1<<20), row(1<<19), make([]byte, 1<<20), 1<<20, 1)
}

func TestTheGreatestAndTheLeastInEveryPlace(t *testing.T) {
	l := []int{1, 2, 0}
	for _, n := range []int{math.MinInt, math.MaxInt} {
		isRight(t, []int{n}, false)
		isRight(t, []int{1, 2, 0, 1, n}, false)
		isNoPut(t, []int{n})
		isNoPut(t, []int{0, 0, 0, 0, n})
		isNoGet(t, nil, n, api.ErrArg)
		isNoGet(t, []byte{9}, n, api.ErrArg)
		isAt(t, l, n, api.Bare)
		isAt(t, []int{0, n}, 1, n)
		isTurn(t, l, n, api.Live, l...)
		isTurn(t, l, 0, n, l...)
		isTurn(t, l, 9, n, l...)
		isTurn(t, l, n, n, l...)
		isTurn(t, []int{n, n}, 0, api.Clean, 2, n)
		isSize(t, []int{n, n}, 1, n)
		isFreeze(t, []int{n, 1, n}, n, 2, n)
		isDiff(t, []int{n}, []int{-1 - n})
		isDiff(t, []int{n}, []int{0}, 0)
		isDiff(t, []int{0}, []int{n}, 0)
		isDiff(t, []int{n}, []int{1}, 0)
		isDiff(t, []int{1}, []int{n})
	}
	isSize(t, l, math.MinInt)
	isSize(t, l, math.MaxInt, append(slices.Clone(l), alike(509, api.Bare)...)...)
}

// roomy is l in memory of its own, with spare room behind it in which other numbers lie.
func roomy(l []int) []int {
	m := append(slices.Clone(l), 1, 2, 1, 77, 2, 1, 1, 2, 2)
	return m[:len(l)]
}

// whole is l, and what lies in its spare room.
func whole(l []int) []int {
	return slices.Clone(l[:cap(l)])
}

// spoil writes over all of l, its spare room too.
func spoil(l []int) {
	for i := range l[:cap(l)] {
		l[:cap(l)][i] = -77
	}
}

// deed is one of the calls that answer a list of states.
type deed struct {
	name string
	do   func(l []int) []int
}

// deeds is each such call, where it changes nothing, where it changes a state, and where it makes the list shorter or longer.
func deeds() []deed {
	all := []deed{{"Freeze", objmap.Freeze}}
	for _, n := range []int{-1, 0, 1, 2, 3, 4, 5, 6, 9, 12, 511, 512, 513, math.MaxInt} {
		all = append(all, deed{fmt.Sprint("Size ", n), func(l []int) []int { return objmap.Size(l, n) }})
		for _, to := range []int{-1, 0, 1, 2, 3} {
			all = append(all, deed{fmt.Sprint("Turn ", n, " ", to), func(l []int) []int { return objmap.Turn(l, n, to) }})
		}
	}
	return all
}

func TestNothingHandedInIsChanged(t *testing.T) {
	for _, l := range [][]int{nil, {0}, {1}, {2}, {1, 2, 0, 1}, {9, -4, 1}, row(9), row(511), row(512), row(600)} {
		a, b := roomy(l), roomy([]int{2, 0, 1, 3})
		was, other := whole(a), whole(b)
		objmap.Right(a)
		objmap.Put(a)
		objmap.Diff(a, b)
		objmap.Diff(b, a)
		for _, i := range edges() {
			objmap.At(a, i)
		}
		for _, d := range deeds() {
			d.do(a)
			if !slices.Equal(whole(a), was) {
				t.Fatalf("R2: %s of %s changed it or its room", d.name, tell(l))
			}
		}
		if !slices.Equal(whole(a), was) || !slices.Equal(whole(b), other) {
			t.Fatalf("R2: %s or its room was changed", tell(l))
		}
	}
	for _, full := range [][]byte{{9, 3, 5}, {3, 3, 5}, {85, 1, 170, 85}} {
		for size := range len(full) {
			b := slices.Clone(full)
			for n := -1; n < 17; n++ {
				objmap.Get(b[:size], n)
			}
			if !bytes.Equal(b, full) {
				t.Fatalf("R2: Get of %v changed it or its room", full[:size])
			}
		}
	}
}

// TestAnswersAreNewMemory: also where nothing had to be changed: a Turn that is none, a Size as it is, a Freeze of what is frozen.
func TestAnswersAreNewMemory(t *testing.T) {
	for _, l := range [][]int{nil, {0}, {2}, {1, 2, 0, 1}, {2, 2, 0}, {9, -4, 1}, row(9), row(511), row(512), row(600)} {
		for _, d := range deeds() {
			a := roomy(l)
			was := whole(a)
			one, two := d.do(a), d.do(a)
			want := slices.Clone(two)
			spoil(one)
			if !slices.Equal(whole(a), was) || !slices.Equal(two, want) {
				t.Fatalf("R2: the answer of %s of %s shares memory", d.name, tell(l))
			}
			spoil(a)
			if !slices.Equal(two, want) {
				t.Fatalf("R2: the answer of %s of %s shares memory with what was handed in", d.name, tell(l))
			}
		}
	}
}

func TestBytesAndPlacesAreNewMemory(t *testing.T) {
	for _, l := range [][]int{{0}, {1, 2, 0, 1}, {2, 2, 0, 1, 1}, row(511), row(512)} {
		one, _ := objmap.Put(l)
		two, _ := objmap.Put(l)
		clear(one[:cap(one)])
		if !bytes.Equal(two, byHand(l)) {
			t.Errorf("R2: two Puts of %s share memory", tell(l))
		}
		b := byHand(l)
		first, _ := objmap.Get(b, len(l))
		second, _ := objmap.Get(b, len(l))
		spoil(first)
		if !bytes.Equal(b, byHand(l)) || !slices.Equal(second, l) {
			t.Errorf("R2: Gets of %s share memory", tell(l))
		}
		clear(b)
		if !slices.Equal(second, l) {
			t.Errorf("R2: Get of %s keeps what was handed in", tell(l))
		}
		spoil(objmap.Diff(nil, l))
		isDiff(t, nil, alike(3, 2), 0, 1, 2)
	}
}

// TestSpareRoomIsNotRead: what lies behind a list's length is none of it.
func TestSpareRoomIsNotRead(t *testing.T) {
	all := []int{1, 2, 0, 1, 2, 9, -1, 1}
	b := []byte{9, 255, 3}
	for n := range 6 {
		l, m := all[:n], slices.Clone(all[:n])
		isRight(t, l, true)
		isPut(t, l, byHand(m)...)
		isAt(t, l, n, api.Bare)
		isAt(t, l, n+2, api.Bare)
		isFreeze(t, l, objmap.Freeze(m)...)
		isDiff(t, l, nil, objmap.Diff(m, nil)...)
		isDiff(t, nil, l, objmap.Diff(nil, m)...)
		isSize(t, l, n+2, append(m, 0, 0)...)
		isTurn(t, l, n+1, api.Clean, append(m[:n:n], 0, 2)...)
		isTurn(t, l, -1, api.Clean, m...)
	}
	isGet(t, b[:0], 0)
	isGet(t, b[:1], 2, 1, 2)
	isNoGet(t, b[:0], 1, api.ErrForm)
}

func TestNilAndEmpty(t *testing.T) {
	for _, l := range [][]int{nil, {}, row(9)[:0]} {
		isRight(t, l, true)
		isPut(t, l)
		isFreeze(t, l)
		isAt(t, l, 0, api.Bare)
		isTurn(t, l, 1, api.Live, 0, 1)
		isTurn(t, l, -1, api.Live)
		isSize(t, l, 2, 0, 0)
		isSize(t, l, 0)
		for _, m := range [][]int{nil, {}, row(9)[:0], {0, 0}} {
			isDiff(t, l, m)
			isDiff(t, m, l)
		}
	}
	for _, b := range [][]byte{nil, {}, {9, 9}} {
		isGet(t, b[:0], 0)
		isNoGet(t, b[:0], 1, api.ErrForm)
		isNoGet(t, b[:0], 513, api.ErrArg)
	}
}

func TestSameAgain(t *testing.T) {
	l := row(30)
	turned, sized, d := objmap.Turn(l, 40, 1), objmap.Size(l, 20), objmap.Diff(l, nil)
	b, _ := objmap.Put(l)
	calls(row(99), row(3), []byte{3}, 7, 2)
	isTurn(t, l, 40, 1, turned...)
	isSize(t, l, 20, sized...)
	isDiff(t, l, nil, d...)
	isPut(t, l, b...)
}
