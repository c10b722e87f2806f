package crc_test

import (
	"bytes"
	"encoding/binary"
	"hash/crc32"
	"math"
	"math/big"
	"math/bits"
	"math/rand"
	"testing"

	"hectograph/crc"
)

const farthest = 1 << 20

// known is the sum as Go's own library has it.
func known(b []byte) uint32 {
	return crc32.Checksum(b, crc32.MakeTable(crc32.Castagnoli))
}

// divided is the sum by long division of polynomials, the highest power first: no step of Next's is in it.
func divided(b []byte) uint32 {
	row := new(big.Int)
	for _, x := range append(bytes.Clone(b), 0, 0, 0, 0) {
		row.Or(row.Lsh(row, 8), big.NewInt(int64(bits.Reverse8(x))))
	}
	// The value that a sum begins with lies on the row's first 32 bits.
	row.Xor(row, new(big.Int).Lsh(big.NewInt(math.MaxUint32), uint(8*len(b))))
	divisor := big.NewInt(0x11EDC6F41)
	for row.BitLen() > 32 {
		row.Xor(row, new(big.Int).Lsh(divisor, uint(row.BitLen()-33)))
	}
	return ^bits.Reverse32(uint32(row.Uint64()))
}

// someRow is a row of n bytes out of r.
func someRow(r *rand.Rand, n int) []byte {
	b := make([]byte, n)
	r.Read(b)
	return b
}

// counted is a row of n bytes: from, and each one step more than the one ahead.
func counted(n, from, step int) []byte {
	b := make([]byte, n)
	for i := range b {
		b[i] = byte(from + i*step)
	}
	return b
}

// turn is a copy of b with the bits of pattern turned from the bit at on, each byte's lowest first; what lies past the end is left out.
func turn(b []byte, at int, pattern uint32) []byte {
	b = bytes.Clone(b)
	for i := range 32 {
		if pattern>>i&1 == 1 && at+i < 8*len(b) {
			b[(at+i)/8] ^= 1 << ((at + i) % 8)
		}
	}
	return b
}

// isTold fails the test, if Open takes b, or answers bytes beside its false.
func isTold(t *testing.T, promise, what string, b []byte) {
	t.Helper()
	in, ok := crc.Open(b)
	if ok {
		t.Fatalf("%s: Open takes %s: %v", promise, what, b)
	}
	if len(in) > 0 {
		t.Fatalf("R3: Open of %s answers %v beside a false", what, in)
	}
}

// P2.1

func TestNext(t *testing.T) {
	for _, c := range []struct {
		c    uint32
		b    byte
		want uint32
	}{
		{0, 0, 0},
		{0, 1, 0xF26B8303},
		{1, 0, 0xF26B8303},
		{1, 1, 0},
		{0, 128, 0x82F63B78},
		{0x80, 0x80, 0},
		{256, 0, 1},
		{math.MaxUint32, 0xFF, 0x00FFFFFF},
		{math.MaxUint32, 0, 0x00FFFFFF ^ 0xAD7D5351},
	} {
		if got := crc.Next(c.c, c.b); got != c.want {
			t.Errorf("P2.1: Next(%#x, %#x): %#x, not %#x", c.c, c.b, got, c.want)
		}
	}
}

func TestNextOfEveryByte(t *testing.T) {
	r := rand.New(rand.NewSource(21))
	sums := []uint32{0, math.MaxUint32, 0x82F63B78}
	for i := range 32 {
		sums = append(sums, 1<<i, r.Uint32())
	}
	table := crc32.MakeTable(crc32.Castagnoli)
	for _, c := range sums {
		for b := range 256 {
			want := ^crc32.Update(^c, table, []byte{byte(b)})
			if got := crc.Next(c, byte(b)); got != want {
				t.Errorf("P2.1: Next(%#x, %#x): %#x, not %#x", c, b, got, want)
			}
		}
	}
}

func TestOf(t *testing.T) {
	for _, c := range []struct {
		name string
		b    []byte
		want uint32
	}{
		{"nil", nil, 0},
		{"no bytes", []byte{}, 0},
		{"the document's run", []byte("123456789"), 0xE3069283},
		{"a", []byte("a"), 0xC1D04330},
		{"one nought", []byte{0}, 0x527D5351},
		{"one 255", []byte{255}, 0xFF000000},
		{"four 255", bytes.Repeat([]byte{255}, 4), math.MaxUint32},
		{"32 noughts", make([]byte, 32), 0x8A9136AA},
		{"32 times 255", bytes.Repeat([]byte{255}, 32), 0x62A8AB43},
		{"32 rising", counted(32, 0, 1), 0x46DD794E},
		{"32 falling", counted(32, 31, -1), 0x113FDB5C},
	} {
		if got := crc.Of(c.b); got != c.want {
			t.Errorf("P2.1: Of %s: %#x, not %#x", c.name, got, c.want)
		}
	}
}

func TestOfAnyRow(t *testing.T) {
	r := rand.New(rand.NewSource(22))
	for n := range 300 {
		b := someRow(r, n)
		if got := crc.Of(b); got != known(b) || got != divided(b) {
			t.Fatalf("P2.1: Of %v: %#x, not %#x (divided: %#x)", b, got, known(b), divided(b))
		}
	}
	for _, n := range []int{1 << 14, farthest, farthest + 1} {
		b := someRow(r, n)
		if got := crc.Of(b); got != known(b) {
			t.Errorf("P2.1: Of %d bytes: %#x, not %#x", n, got, known(b))
		}
	}
}

// TestOfIsNextByteByByte: Of is just what the chapter makes of Next.
func TestOfIsNextByteByByte(t *testing.T) {
	c := uint32(math.MaxUint32)
	b := []byte("hectograph\x00\x80\xff")
	for i, x := range b {
		c = crc.Next(c, x)
		if got := crc.Of(b[:i+1]); got != ^c {
			t.Errorf("P2.1: Of the first %d bytes: %#x, not %#x", i+1, got, ^c)
		}
	}
}

// TestOfToldNoughts: rows of noughts, and noughts ahead and behind, have sums of their own.
func TestOfToldNoughts(t *testing.T) {
	told := map[uint32]int{}
	for n := range 1000 {
		sum := crc.Of(make([]byte, n))
		if other, there := told[sum]; there {
			t.Fatalf("P2.1: %d and %d noughts have one sum", other, n)
		}
		told[sum] = n
	}
	b := []byte("a")
	if crc.Of(b) == crc.Of([]byte("\x00a")) || crc.Of(b) == crc.Of([]byte("a\x00")) {
		t.Error("P2.1: a nought ahead or behind isn't told")
	}
}

func TestJoin(t *testing.T) {
	for _, c := range []struct {
		a, b uint32
		n    int
		want uint32
	}{
		{0, 0, 0, 0},
		{0, 5, 1, 5},
		{12, 5, 0, 12 ^ 5},
		{12, 0, 0, 12},
		{1, 0, 1, 0xF26B8303},
		{1, 7, 1, 0xF26B8303 ^ 7},
		{256, 0, 1, 1},
		{1 << 16, 3, 2, 1 ^ 3},
		{math.MaxUint32, math.MaxUint32, 0, 0},
		{crc.Of([]byte("1234")), crc.Of([]byte("56789")), 5, 0xE3069283},
	} {
		if got := crc.Join(c.a, c.b, c.n); got != c.want {
			t.Errorf("P2.1: Join(%#x, %#x, %d): %#x, not %#x", c.a, c.b, c.n, got, c.want)
		}
	}
}

func TestJoinBelowNought(t *testing.T) {
	for _, n := range []int{math.MinInt, math.MinInt + 1, math.MinInt64 / 2, math.MinInt32, -farthest, -2, -1} {
		if got := crc.Join(0xABCDEF01, 0x12345678, n); got != 0xABCDEF01^0x12345678 {
			t.Errorf("P2.1: Join of %d bytes isn't that of 0: %#x", n, got)
		}
	}
}

func TestJoinAtItsEnd(t *testing.T) {
	r := rand.New(rand.NewSource(23))
	long := someRow(r, farthest)
	head := []byte("ahead")
	whole := append(bytes.Clone(head), long...)
	for _, n := range []int{farthest - 1, farthest} {
		got := crc.Join(crc.Of(head), crc.Of(long[:n]), n)
		if want := known(whole[:len(head)+n]); got != want {
			t.Errorf("P2.1: Join of %d bytes: %#x, not %#x", n, got, want)
		}
	}
	want := crc.Join(7, 9, farthest)
	if crc.Join(7, 9, farthest-1) == want {
		t.Errorf("P2.1: Join holds n below 2^20 - 1")
	}
	for _, n := range []int{farthest + 1, 2 * farthest, math.MaxInt32, math.MaxInt32 + 1, math.MaxInt - 1, math.MaxInt} {
		if got := crc.Join(7, 9, n); got != want {
			t.Errorf("P2.1: Join of %d bytes isn't that of 2^20: %#x", n, got)
		}
	}
}

// P2.2

func TestSeal(t *testing.T) {
	for _, c := range []struct {
		b    string
		want string
	}{
		{"", "\x00\x00\x00\x00"},
		{"a", "a\x30\x43\xd0\xc1"},
		{"123456789", "123456789\x83\x92\x06\xe3"},
		{"\xff", "\xff\x00\x00\x00\xff"},
		{"\x00\x00\x00\x00", "\x00\x00\x00\x00\xc7\x4b\x67\x48"},
	} {
		if got := crc.Seal([]byte(c.b)); string(got) != c.want {
			t.Errorf("P2.2: Seal of %q: %q, not %q", c.b, got, c.want)
		}
		if in, ok := crc.Open([]byte(c.want)); !ok || string(in) != c.b {
			t.Errorf("P2.2: Open of %q: %q, %v", c.want, in, ok)
		}
	}
}

func TestOpenIsSealTurnedBack(t *testing.T) {
	r := rand.New(rand.NewSource(24))
	for n := range 300 {
		b := someRow(r, n)
		sealed := crc.Seal(b)
		if want := binary.LittleEndian.AppendUint32(bytes.Clone(b), known(b)); !bytes.Equal(sealed, want) {
			t.Fatalf("P2.2: Seal of %v: %v, not %v", b, sealed, want)
		}
		if in, ok := crc.Open(sealed); !ok || !bytes.Equal(in, b) {
			t.Fatalf("P2.2: Open of the sealed %v: %v, %v", b, in, ok)
		}
		if in, ok := crc.Open(crc.Seal(sealed)); !ok || !bytes.Equal(in, sealed) {
			t.Fatalf("P2.2: sealed twice isn't opened once: %v, %v", in, ok)
		}
	}
}

func TestOpenOfFewBytes(t *testing.T) {
	isTold(t, "P2.2", "nil", nil)
	for n := range 4 {
		isTold(t, "P2.2", "few noughts", make([]byte, n))
		isTold(t, "P2.2", "few 255", bytes.Repeat([]byte{255}, n))
		isTold(t, "P2.2", "a sum cut off", crc.Seal(nil)[:n])
	}
	for _, last := range []byte{1, 128, 255} {
		isTold(t, "P2.2", "a wrong sum of nothing", []byte{0, 0, 0, last})
		isTold(t, "P2.2", "a wrong sum of nothing", []byte{last, 0, 0, 0})
	}
}

func TestOpenOfWrongSums(t *testing.T) {
	for _, b := range []string{"", "a", "abcd", "123456789", "\x00\x00\x00\x00\x00"} {
		sealed := crc.Seal([]byte(b))
		sum := sealed[len(b):]
		for bit := range 32 {
			isTold(t, "P2.2", "a sum that is wrong by one bit", turn(sealed, 8*len(b)+bit, 1))
		}
		isTold(t, "P2.2", "one byte more", append(bytes.Clone(sealed), 0))
		isTold(t, "P2.2", "a sum that isn't turned", append([]byte(b), ^sum[0], ^sum[1], ^sum[2], ^sum[3]))
		isTold(t, "P2.2", "another's sum", append([]byte(b), crc.Seal([]byte("another"))[7:]...))
		if len(b) > 0 {
			isTold(t, "P2.2", "a byte cut off behind", sealed[:len(sealed)-1])
			isTold(t, "P2.2", "a byte cut off ahead", sealed[1:])
			isTold(t, "P2.2", "the sum's highest byte first", append([]byte(b), sum[3], sum[2], sum[1], sum[0]))
			isTold(t, "P2.2", "the sum ahead", append(bytes.Clone(sum), b...))
		}
	}
}

// P2.3

func TestTurnedBitsAreTold(t *testing.T) {
	r := rand.New(rand.NewSource(25))
	for n := range 40 {
		sealed := crc.Seal(someRow(r, n))
		for at := range 8 * len(sealed) {
			isTold(t, "P2.3", "one turned bit", turn(sealed, at, 1))
			isTold(t, "P2.3", "32 turned bits", turn(sealed, at, math.MaxUint32))
			for far := 1; far < 32; far++ {
				isTold(t, "P2.3", "two turned bits", turn(sealed, at, 1|1<<far))
				isTold(t, "P2.3", "turned bits side by side", turn(sealed, at, 1<<far-1))
			}
			for range 20 {
				isTold(t, "P2.3", "some turned bits", turn(sealed, at, r.Uint32()|1))
			}
		}
	}
}

// TestPolynomialTurned: bits turned as the polynomial's own lie, 33 side by side, are the fewest that aren't told: a sum that told them would be of another polynomial.
func TestPolynomialTurned(t *testing.T) {
	sealed := crc.Seal([]byte("hectograph"))
	for at := range 8*len(sealed) - 32 {
		b := turn(turn(sealed, at, 1), at+1, 0x82F63B78)
		if _, ok := crc.Open(b); !ok {
			t.Fatalf("P2.1: the polynomial itself, from bit %d on, is told", at)
		}
	}
}

func TestJoinIsTheSumOfTheJoined(t *testing.T) {
	r := rand.New(rand.NewSource(26))
	for n := range 120 {
		b := someRow(r, n)
		for at := range n + 1 {
			if got := crc.Join(crc.Of(b[:at]), crc.Of(b[at:]), n-at); got != crc.Of(b) {
				t.Fatalf("P2.3: Join of %v, parted at %d: %#x, not %#x", b, at, got, crc.Of(b))
			}
		}
	}
	for range 100 {
		a, b, c := someRow(r, r.Intn(500)), someRow(r, r.Intn(500)), someRow(r, r.Intn(500))
		left := crc.Join(crc.Join(crc.Of(a), crc.Of(b), len(b)), crc.Of(c), len(c))
		right := crc.Join(crc.Of(a), crc.Join(crc.Of(b), crc.Of(c), len(c)), len(b)+len(c))
		if whole := crc.Of(bytes.Join([][]byte{a, b, c}, nil)); left != whole || right != whole {
			t.Fatalf("P2.3: three joined: %#x and %#x, not %#x", left, right, whole)
		}
	}
}

// R2

func TestAnswersAreNewMemory(t *testing.T) {
	// Behind the sealed row lies more: Seal and Open must neither write nor read it, nor give it out.
	sealed := crc.Seal([]byte("abc"))
	for name, answer := range map[string]func(b []byte) []byte{
		"Seal": crc.Seal,
		"Open": func(b []byte) []byte { in, _ := crc.Open(b); return in },
	} {
		for _, l := range []int{0, 1, 4, len(sealed)} {
			room := append(bytes.Clone(sealed), bytes.Repeat([]byte{42}, 40)...)
			kept := bytes.Clone(room)
			got := answer(room[:l])
			want := bytes.Clone(got)
			if !bytes.Equal(room, kept) {
				t.Errorf("R2: %s of %d bytes wrote into what was handed in, or its spare room", name, l)
			}
			for i := range got[:cap(got)] {
				got[:cap(got)][i] = 13
			}
			if !bytes.Equal(room, kept) {
				t.Errorf("R2: the answer of %s of %d bytes shares memory with what was handed in", name, l)
			}
			if second := answer(room[:l]); !bytes.Equal(second, want) {
				t.Errorf("R2: two answers of %s of %d bytes share memory", name, l)
			}
		}
	}
}

// R4

func TestNilIsEmpty(t *testing.T) {
	if !bytes.Equal(crc.Seal(nil), crc.Seal([]byte{})) || crc.Of(nil) != crc.Of([]byte{}) {
		t.Error("R4: nil is told from an empty row")
	}
	if in, ok := crc.Open(crc.Seal(nil)); !ok || len(in) > 0 {
		t.Errorf("R4: nothing sealed isn't opened: %v, %v", in, ok)
	}
}

// R5

func TestSpareRoomIsNotRead(t *testing.T) {
	sealed := crc.Seal([]byte("abc"))
	for l := range len(sealed) {
		isTold(t, "R5", "a row whose sum lies in its spare room", sealed[:l])
	}
	noughts := make([]byte, 40)
	for l := range 4 {
		isTold(t, "R5", "few bytes with room behind", noughts[:l])
	}
	if crc.Of(sealed[:3]) != known([]byte("abc")) {
		t.Error("R5: Of reads spare room")
	}
}
