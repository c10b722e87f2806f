package frame_test

import (
	"bytes"
	"encoding/binary"
	"hash/crc32"
	"math"
	"math/rand"
	"slices"
	"strings"
	"testing"

	"hectograph/api"
	"hectograph/frame"
)

// raw is a frame by hand, its sum right, of numbers that may be none that Lay would lay.
func raw(begin string, tag uint32, seq uint64, count uint16, data string) []byte {
	b := []byte(begin)
	b = binary.LittleEndian.AppendUint32(b, tag)
	b = binary.LittleEndian.AppendUint64(b, seq)
	b = binary.LittleEndian.AppendUint16(b, count)
	return summed(append(b, data...))
}

// summed is b and the sum of all its bytes, as Go's own library has it.
func summed(b []byte) []byte {
	b = bytes.Clone(b)
	return binary.LittleEndian.AppendUint32(b, crc32.Checksum(b, crc32.MakeTable(crc32.Castagnoli)))
}

// laid is the frame of an entry that is Right, by hand.
func laid(e api.Entry) []byte {
	return raw("HGJE", uint32(e.Tag), uint64(e.Seq), uint16(len(e.Data)), string(e.Data))
}

// entry is one of that Data.
func entry(tag, seq int, data string) api.Entry {
	return api.Entry{Tag: tag, Seq: seq, Data: []byte(data)}
}

// long is a text of n bytes, no two side by side alike.
func long(n int) string {
	b := make([]byte, n)
	for i := range b {
		b[i] = byte(7*i + 1)
	}
	return string(b)
}

// row is the parts one behind the other, in new memory.
func row(parts ...[]byte) []byte {
	return bytes.Join(parts, nil)
}

func same(a, b api.Entry) bool {
	return a.Tag == b.Tag && a.Seq == b.Seq && bytes.Equal(a.Data, b.Data)
}

// right is entries that may be laid, the edges among them.
func right() []api.Entry {
	return []api.Entry{
		entry(1, 2, "a"),
		entry(1, 1, "\x00"),
		entry(2, api.MaxSeq, "ab"),
		entry(api.MaxID, 1, "HGJE"),
		entry(api.MaxID, api.MaxSeq, long(api.MaxPayload)),
		entry(api.MaxID-1, api.MaxSeq-1, long(api.MaxPayload-1)),
		entry(0x01020304, 0x0506070809, "\xff\xfe"),
		{Tag: 255, Seq: 256, Data: make([]byte, api.MaxPayload)},
		{Tag: 256, Seq: 1 << 32, Data: bytes.Repeat([]byte{255}, 17)},
	}
}

// wrong is entries that may not be laid: each number at its edge and far off, alone and together with another one.
func wrong() []api.Entry {
	l := []api.Entry{{}, {Tag: 1, Seq: 1}, {Tag: 1, Seq: 1, Data: []byte{}}}
	for _, tag := range []int{0, -1, api.MaxID + 1, 1<<32 + 1, math.MaxInt32 + 1, math.MinInt32, math.MaxInt, math.MinInt, math.MinInt + 1} {
		l = append(l, entry(tag, 1, "a"))
	}
	for _, seq := range []int{0, -1, api.MaxSeq + 1, 2 * api.MaxSeq, math.MaxInt, math.MinInt, math.MinInt + 1} {
		l = append(l, entry(1, seq, "a"))
	}
	// 2^16 bytes and one are one byte to who counts them in two.
	for _, n := range []int{0, api.MaxPayload + 1, api.MaxPayload + 2, 256, 257, 1 << 16, 1<<16 + 1} {
		l = append(l, entry(1, 1, long(n)))
	}
	return append(l, entry(0, 0, ""), entry(-1, -1, "a"), entry(math.MaxInt, math.MaxInt, long(1000)))
}

// oddPlaces is places of every kind beside a row of n bytes: before it, at its edges, far off.
func oddPlaces(n int) []int {
	return []int{math.MinInt, math.MinInt + 1, math.MinInt32, -n - 1, -n, -23, -22, -1, 0, 1, n - 23, n - 22, n - 1, n, n + 1, 2*n + 1, math.MaxInt32, math.MaxInt - 112, math.MaxInt - 22, math.MaxInt - 1, math.MaxInt}
}

// refuses fails the test, unless Take refuses what stands at at by want, and answers nothing beside that.
func refuses(t *testing.T, what string, b []byte, at int, want api.Errno) {
	t.Helper()
	e, end, why := frame.Take(b, at)
	if why != want {
		t.Errorf("P4.2: Take of %s at %d: %v, not %v", what, at, why, want)
	}
	if !same(e, api.Entry{}) || end != 0 {
		t.Errorf("R3: Take of %s at %d answers %v, %d beside %v", what, at, e, end, why)
	}
}

// takes fails the test, unless Take answers want, whose frame stands at at.
func takes(t *testing.T, what string, b []byte, at int, want api.Entry) {
	t.Helper()
	e, end, why := frame.Take(b, at)
	if why != api.OK || !same(e, want) || end != at+22+len(want.Data) {
		t.Errorf("P4.2: Take of %s at %d: %v, %d, %v, not %v", what, at, e, end, why, want)
	}
}

// isAll fails the test, unless All answers just those entries, of n bytes in all.
func isAll(t *testing.T, what string, b []byte, n int, want ...api.Entry) {
	t.Helper()
	l, got := frame.All(b)
	if got != n || !slices.EqualFunc(l, want, same) {
		t.Errorf("P4.2: All of %s: %v, %d, not %v, %d", what, l, got, want, n)
	}
}

func isAt(t *testing.T, what string, b []byte, at, want int) {
	t.Helper()
	if got := frame.Seek(b, at); got != want {
		t.Errorf("P4.2: Seek of %s from %d: %d, not %d", what, at, got, want)
	}
}

// P4.1

func TestRight(t *testing.T) {
	for _, e := range right() {
		if !frame.Right(e) {
			t.Errorf("P4.1: %v isn't Right", e)
		}
	}
	for _, e := range wrong() {
		if frame.Right(e) {
			t.Errorf("P4.1: of Tag %d, Seq %d, %d bytes: Right", e.Tag, e.Seq, len(e.Data))
		}
	}
}

func TestRightOfEachNumberOfBytes(t *testing.T) {
	for n := range 300 {
		e := entry(1, 1, long(n))
		want := n >= 1 && n <= 90
		if got := frame.Right(e); got != want {
			t.Errorf("P4.1: Right of %d bytes: %v", n, got)
		}
		if _, why := frame.Lay(e); (why == api.OK) != want {
			t.Errorf("P4.1: Lay of %d bytes: %v", n, why)
		}
	}
}

// TestLayByHand: the bytes written out, so that no sum and no number is reckoned here.
func TestLayByHand(t *testing.T) {
	for _, c := range []struct {
		e    api.Entry
		want string
	}{
		{entry(1, 2, "a"), "HGJE" + "\x01\x00\x00\x00" + "\x02\x00\x00\x00\x00\x00\x00\x00" + "\x01\x00" + "a" + "\x3b\xb6\x97\xb5"},
		{entry(1<<30, 1<<40, "\x00HGJE\xff"), "HGJE" + "\x00\x00\x00\x40" + "\x00\x00\x00\x00\x00\x01\x00\x00" + "\x06\x00" + "\x00HGJE\xff" + "\xae\x68\x7b\x03"},
		{entry(0x01020304, 0x05060708090, "xyz"), "HGJE" + "\x04\x03\x02\x01" + "\x90\x80\x70\x60\x50\x00\x00\x00" + "\x03\x00" + "xyz" + "\x59\x01\x0f\x36"},
	} {
		if got, why := frame.Lay(c.e); why != api.OK || string(got) != c.want {
			t.Errorf("P4.1: Lay of %v: %q, %v, not %q", c.e, got, why, c.want)
		}
		takes(t, "bytes by hand", []byte(c.want), 0, c.e)
	}
}

func TestLay(t *testing.T) {
	for _, e := range right() {
		got, why := frame.Lay(e)
		if why != api.OK || !bytes.Equal(got, laid(e)) {
			t.Errorf("P4.1: Lay of %v: %v, %v, not %v", e, got, why, laid(e))
		}
		if len(got) != frame.Size(len(e.Data)) {
			t.Errorf("P4.1: Lay of %d bytes of Data: %d bytes, Size tells %d", len(e.Data), len(got), frame.Size(len(e.Data)))
		}
	}
}

func TestLayOfWhatIsNotRight(t *testing.T) {
	for _, e := range wrong() {
		b, why := frame.Lay(e)
		if why != api.ErrArg {
			t.Errorf("P4.1: Lay of Tag %d, Seq %d, %d bytes: %v, not ErrArg", e.Tag, e.Seq, len(e.Data), why)
		}
		if len(b) > 0 {
			t.Errorf("R3: Lay of Tag %d, Seq %d, %d bytes answers %v beside a refusal", e.Tag, e.Seq, len(e.Data), b)
		}
	}
}

func TestSize(t *testing.T) {
	for _, c := range [][2]int{{math.MinInt, 22}, {math.MinInt + 1, 22}, {math.MinInt32, 22}, {-90, 22}, {-22, 22}, {-1, 22}, {0, 22}, {1, 23}, {2, 24}, {89, 111}, {90, 112}, {91, 112}, {112, 112}, {1 << 16, 112}, {math.MaxInt32, 112}, {math.MaxInt - 22, 112}, {math.MaxInt, 112}} {
		if got := frame.Size(c[0]); got != c[1] {
			t.Errorf("P4.1: Size(%d): %d, not %d", c[0], got, c[1])
		}
	}
}

// P4.2: Take

func TestTake(t *testing.T) {
	for _, e := range right() {
		b := laid(e)
		takes(t, "a frame alone", b, 0, e)
		takes(t, "a frame with bytes behind it", row(b, []byte("HGJE")), 0, e)
		takes(t, "a frame with a nought behind it", row(b, []byte{0}), 0, e)
		takes(t, "a frame behind bytes", row([]byte("HGJEHGJ"), b), 7, e)
		takes(t, "a frame between two", row(b, b, b), len(b), e)
	}
}

func TestTakeAtOddPlaces(t *testing.T) {
	b := laid(entry(1, 2, "abc"))
	for what, b := range map[string][]byte{"nil": nil, "no bytes": {}, "a byte": {'H'}, "a frame": b, "three frames": row(b, b, b)} {
		refuses(t, what, b, len(b), api.ErrNone)
		for _, at := range oddPlaces(len(b)) {
			if at < 0 || at > len(b) {
				refuses(t, what, b, at, api.ErrRange)
			}
		}
	}
	for at := 1; at < len(b); at++ {
		refuses(t, "a frame, from within it", b, at, api.ErrForm)
	}
}

func TestTakeOfFewBytes(t *testing.T) {
	b := laid(entry(1, 2, "a"))
	for n := 1; n < len(b); n++ {
		refuses(t, "a frame cut off", b[:n], 0, api.ErrForm)
		refuses(t, "a frame cut off, behind others", row([]byte("xx"), b[:n]), 2, api.ErrForm)
		refuses(t, "its last bytes", b, n, api.ErrForm)
	}
	// Of 22 bytes there may be just a frame without Data, which Right doesn't allow.
	none := raw("HGJE", 1, 2, 0, "")
	if len(none) != 22 {
		t.Fatal("a frame of no Data has 22 bytes")
	}
	refuses(t, "22 bytes", none, 0, api.ErrForm)
	refuses(t, "21 bytes", none[1:], 0, api.ErrForm)
	refuses(t, "21 bytes", none[:21], 0, api.ErrForm)
	refuses(t, "22 bytes of a frame", laid(entry(1, 2, "abc"))[:22], 0, api.ErrForm)
	takes(t, "23 bytes", b, 0, entry(1, 2, "a"))
}

// TestTakeOfWrongForms: all these have a sum that is right.
func TestTakeOfWrongForms(t *testing.T) {
	for _, begin := range []string{"hGJE", "HgJE", "HGjE", "HGJe", "EJGH", "GHJE", "HGJF", "\x00GJE", "HGJ\x00", "\x00\x00\x00\x00", "HG\xcaE"} {
		refuses(t, "a frame that begins with "+begin, raw(begin, 1, 2, 1, "a"), 0, api.ErrForm)
	}
	for _, tag := range []uint32{0, 1<<30 + 1, 1 << 31, 1<<31 + 1, math.MaxInt32, math.MaxUint32} {
		refuses(t, "a Tag that isn't Right", raw("HGJE", tag, 2, 1, "a"), 0, api.ErrForm)
	}
	for _, seq := range []uint64{0, 1<<40 + 1, 1 << 41, 1<<62 + 1, 1 << 63, 1<<63 + 1, math.MaxInt64, math.MaxUint64} {
		refuses(t, "a Seq that isn't Right", raw("HGJE", 1, seq, 1, "a"), 0, api.ErrForm)
	}
	for _, n := range []int{0, 91, 92, 255, 256, 257, 512, math.MaxInt16, math.MaxInt16 + 1, math.MaxUint16 - 1, math.MaxUint16} {
		refuses(t, "a number of bytes that isn't Right", raw("HGJE", 1, 2, uint16(n), long(n)), 0, api.ErrForm)
		refuses(t, "a number of bytes that isn't Right, few behind it", raw("HGJE", 1, 2, uint16(n), "a"), 0, api.ErrForm)
		refuses(t, "a number of bytes that isn't Right, many behind it", raw("HGJE", 1, 2, uint16(n), long(70000)), 0, api.ErrForm)
	}
	for n := 2; n <= 90; n++ {
		refuses(t, "fewer bytes than they make", raw("HGJE", 1, 2, uint16(n), long(n-1)), 0, api.ErrForm)
	}
	// What Right allows just so is taken.
	takes(t, "the greatest numbers", raw("HGJE", 1<<30, 1<<40, 90, long(90)), 0, entry(1<<30, 1<<40, long(90)))
	takes(t, "the least numbers", raw("HGJE", 1, 1, 1, "\x00"), 0, entry(1, 1, "\x00"))
}

func TestTakeOfWrongSums(t *testing.T) {
	for _, e := range right() {
		b := laid(e)
		for bit := range 32 {
			turned := bytes.Clone(b)
			turned[len(b)-4+bit/8] ^= 1 << (bit % 8)
			refuses(t, "a sum that is wrong by a bit", turned, 0, api.ErrSum)
			refuses(t, "a sum that is wrong by a bit, behind others", row([]byte("HGJ"), turned), 3, api.ErrSum)
		}
		body := b[:len(b)-4]
		sum := b[len(b)-4:]
		refuses(t, "a sum of noughts", row(body, make([]byte, 4)), 0, api.ErrSum)
		refuses(t, "a sum, its highest byte first", row(body, []byte{sum[3], sum[2], sum[1], sum[0]}), 0, api.ErrSum)
		refuses(t, "a sum that isn't turned", row(body, []byte{^sum[0], ^sum[1], ^sum[2], ^sum[3]}), 0, api.ErrSum)
		refuses(t, "a sum of Data alone", row(body, summed(e.Data)[len(e.Data):]), 0, api.ErrSum)
		refuses(t, "a sum without the first four bytes", row(body, summed(body[4:])[len(body)-4:]), 0, api.ErrSum)
		refuses(t, "a sum one byte further", row(body, []byte{0}, sum), 0, api.ErrSum)
	}
	refuses(t, "a smaller number of bytes", row([]byte("HGJE\x01\x00\x00\x00\x02\x00\x00\x00\x00\x00\x00\x00\x02\x00abc"), laid(entry(1, 2, "abc"))[21:]), 0, api.ErrSum)
}

// TestTakeTellsTheFormFirst: where both the form and the sum are wrong it's the form.
func TestTakeTellsTheFormFirst(t *testing.T) {
	for _, b := range [][]byte{raw("HGJe", 1, 2, 1, "a"), raw("HGJE", 0, 2, 1, "a"), raw("HGJE", 1, 0, 1, "a"), raw("HGJE", 1, 2, 0, "a"), raw("HGJE", 1, 2, 91, long(91)), raw("HGJE", 1, 2, 2, "a")} {
		b[len(b)-1] ^= 1
		refuses(t, "a wrong form and a wrong sum", b, 0, api.ErrForm)
	}
}

// P4.2: All

func TestAllOfNothing(t *testing.T) {
	isAll(t, "nil", nil, 0)
	isAll(t, "no bytes", []byte{}, 0)
	isAll(t, "a byte", []byte("H"), 0)
	isAll(t, "bytes that are no frame", []byte(long(500)), 0)
	isAll(t, "the beginning of one", []byte("HGJE"), 0)
}

func TestAll(t *testing.T) {
	var b []byte
	for i, e := range right() {
		b = row(b, laid(e))
		isAll(t, "frames one behind the other", b, len(b), right()[:i+1]...)
		isAll(t, "frames, a byte ahead", row([]byte{0}, b), 0)
		for what, more := range map[string]string{"a nought": "\x00", "noughts": strings.Repeat("\x00", 200), "H": "H", "HGJE": "HGJE", "other bytes": long(100), "a frame of no Data": string(raw("HGJE", 1, 2, 0, "")), "a frame of a wrong sum": string(append(laid(e)[:len(laid(e))-1], laid(e)[len(laid(e))-1]^1))} {
			isAll(t, "frames, behind them "+what, row(b, []byte(more)), len(b), right()[:i+1]...)
			// No frame behind what isn't one is told.
			isAll(t, "frames, between them "+what, row(b, []byte(more), b), len(b), right()[:i+1]...)
		}
	}
	e := entry(5, 5, "e")
	isAll(t, "one frame three times, no order of numbers", row(laid(e), laid(e), laid(entry(4, 1, "d")), laid(e)), 92, e, e, entry(4, 1, "d"), e)
}

func TestAllOfATornFrame(t *testing.T) {
	one, two := entry(1, 2, "abc"), entry(3, 9, "d")
	b := row(laid(one), laid(two))
	for n := range len(b) + 1 {
		switch {
		case n < 25:
			isAll(t, "the first frame torn", b[:n], 0)
		case n < 48:
			isAll(t, "the second frame torn", b[:n], 25, one)
		default:
			isAll(t, "both", b[:n], 48, one, two)
		}
	}
	for at := range b {
		turned := bytes.Clone(b)
		turned[at] ^= 128
		if at < 25 {
			isAll(t, "the first frame turned", turned, 0)
		} else {
			isAll(t, "the second frame turned", turned, 25, one)
		}
	}
}

// P4.2: Seek

func TestSeek(t *testing.T) {
	one, two := laid(entry(1, 2, "abc")), laid(entry(3, 9, "d"))
	b := row([]byte("xHG"), one, two)
	for _, at := range []int{math.MinInt, math.MinInt + 1, math.MinInt32, -len(b), -23, -1, 0, 1, 2, 3} {
		isAt(t, "two frames", b, at, 3)
	}
	for at := 4; at <= 28; at++ {
		isAt(t, "two frames, from within the first", b, at, 28)
	}
	for at := 29; at <= len(b)+30; at++ {
		isAt(t, "two frames, from within the last", b, at, -1)
	}
	for _, at := range []int{math.MaxInt32, math.MaxInt - 23, math.MaxInt - 1, math.MaxInt} {
		isAt(t, "two frames, from far behind", b, at, -1)
	}
}

func TestSeekWhereThereIsNone(t *testing.T) {
	one := laid(entry(1, 2, "abc"))
	bad := bytes.Clone(one)
	bad[20] ^= 1
	for what, b := range map[string][]byte{
		"nil":                      nil,
		"no bytes":                 {},
		"a byte":                   {'H'},
		"noughts":                  make([]byte, 300),
		"beginnings":               []byte(strings.Repeat("HGJE", 50)),
		"a frame of a wrong sum":   bad,
		"a frame cut off":          one[:len(one)-1],
		"a frame, its first lost":  one[1:],
		"a frame of no Data":       raw("HGJE", 1, 2, 0, ""),
		"a frame of too much Data": raw("HGJE", 1, 2, 91, long(91)),
		"other bytes":              []byte(long(300)),
	} {
		for _, at := range oddPlaces(len(b)) {
			isAt(t, what, b, at, -1)
		}
	}
}

// TestSeekBehindWhatLooksLikeOne: what begins as a frame, and isn't one, hides none that lies behind or within it.
func TestSeekBehindWhatLooksLikeOne(t *testing.T) {
	e := entry(7, 8, "xy")
	one := laid(e)
	bad := bytes.Clone(laid(entry(1, 2, long(90))))
	bad[50] ^= 4
	for what, ahead := range map[string][]byte{
		"nothing":                []byte{},
		"HGJE":                   []byte("HGJE"),
		"HGJE twice":             []byte("HGJEHGJE"),
		"HGJ":                    []byte("HGJ"),
		"HH":                     []byte("HH"),
		"a frame of no Data":     raw("HGJE", 1, 2, 0, ""),
		"a frame of a wrong Tag": raw("HGJE", 0, 2, 1, "a"),
		"a frame of a wrong sum": bad,
		"a frame cut off":        bad[:30],
		"a frame to which this one's bytes belong": []byte("HGJE\x01\x00\x00\x00\x02\x00\x00\x00\x00\x00\x00\x00\x18\x00"),
	} {
		b := row(ahead, one)
		isAt(t, "a frame behind "+what, b, 0, len(ahead))
		isAt(t, "a frame behind "+what, b, len(ahead), len(ahead))
		isAt(t, "a frame behind "+what, b, len(ahead)+1, -1)
		takes(t, "a frame behind "+what, b, len(ahead), e)
	}
	// A frame may lie within the Data of another one: who asks from within is told it.
	outer := laid(entry(1, 1, "ab"+string(one)+"c"))
	isAt(t, "a frame within a frame", outer, 0, 0)
	isAt(t, "a frame within a frame", outer, 1, 20)
	isAt(t, "a frame within a frame", outer, 20, 20)
	isAt(t, "a frame within a frame", outer, 21, -1)
	isAll(t, "a frame within a frame", outer, len(outer), entry(1, 1, "ab"+string(one)+"c"))
}

// TestSeekIsTheFirstThatIsTaken: Seek is held against Take, place by place, and All against both.
func TestSeekIsTheFirstThatIsTaken(t *testing.T) {
	r := rand.New(rand.NewSource(41))
	for range 300 {
		b := someRow(r)
		next := -1
		isAt(t, "some bytes", b, len(b), -1)
		for at := len(b) - 1; at >= 0; at-- {
			if _, _, why := frame.Take(b, at); why == api.OK {
				next = at
			}
			isAt(t, "some bytes", b, at, next)
		}
		var want []api.Entry
		at := 0
		for frame.Seek(b, at) == at {
			e, end, why := frame.Take(b, at)
			if why != api.OK {
				t.Fatalf("P4.2: Seek's place isn't taken: %v", why)
			}
			want, at = append(want, e), end
		}
		isAll(t, "some bytes", b, at, want...)
	}
}

// someRow is frames, pieces of frames and other bytes, mixed.
func someRow(r *rand.Rand) []byte {
	var b []byte
	for range r.Intn(8) {
		f := laid(someEntry(r))
		switch r.Intn(5) {
		case 0:
			f = f[:r.Intn(len(f))]
		case 1:
			f[r.Intn(len(f))] ^= 1 << r.Intn(8)
		case 2:
			f = row([]byte("HGJEHG")[:r.Intn(7)], f)
		}
		b = row(b, f)
	}
	return b
}

func someEntry(r *rand.Rand) api.Entry {
	e := api.Entry{Tag: 1 + r.Intn(api.MaxID), Seq: 1 + r.Intn(api.MaxSeq), Data: make([]byte, 1+r.Intn(api.MaxPayload))}
	r.Read(e.Data)
	return e
}

// P4.3

// turn is a copy of b with the bits of pattern turned from the bit at on, but those in the two bytes of the number of bytes; false, if none is.
func turn(b []byte, at int, pattern uint32) ([]byte, bool) {
	b, some := bytes.Clone(b), false
	for i := range 32 {
		place := (at + i) / 8
		if pattern>>i&1 == 1 && place < len(b) && place != 16 && place != 17 {
			b[place] ^= 1 << ((at + i) % 8)
			some = true
		}
	}
	return b, some
}

// isNotTaken fails the test, if Take takes what stands at b's beginning.
func isNotTaken(t *testing.T, what string, b []byte) {
	t.Helper()
	if e, end, why := frame.Take(b, 0); why != api.ErrForm && why != api.ErrSum || end != 0 || !same(e, api.Entry{}) {
		t.Fatalf("P4.3: %s is taken: %v, %v, %d, %v", what, b, e, end, why)
	}
}

func TestTurnedBytesAreNotTaken(t *testing.T) {
	for _, e := range right() {
		b := laid(e)
		for at := range b {
			for x := 1; x < 256; x++ {
				turned := bytes.Clone(b)
				turned[at] ^= byte(x)
				isNotTaken(t, "a frame of a turned byte", turned)
				// Other bytes behind it make room for a greater number of bytes.
				isNotTaken(t, "a frame of a turned byte, others behind it", row(turned, b, b))
			}
		}
	}
}

func TestTurnedBitsAreNotTaken(t *testing.T) {
	r := rand.New(rand.NewSource(42))
	entries := append(right(), someEntry(r), someEntry(r), someEntry(r))
	for _, e := range entries {
		b := laid(e)
		for at := range 8 * len(b) {
			patterns := []uint32{1, 3, math.MaxUint32, 1 | 1<<31, r.Uint32(), r.Uint32() | 1, r.Uint32() | 1 | 1<<31}
			for far := 1; far < 32; far++ {
				patterns = append(patterns, 1|1<<far)
			}
			for _, p := range patterns {
				if turned, some := turn(b, at, p); some {
					isNotTaken(t, "a frame of turned bits", turned)
				}
			}
		}
	}
}

func TestCutOffIsNotTaken(t *testing.T) {
	r := rand.New(rand.NewSource(43))
	entries := right()
	for n := 1; n <= api.MaxPayload; n++ {
		entries = append(entries, entry(1+r.Intn(api.MaxID), 1+r.Intn(api.MaxSeq), long(n)))
	}
	for _, e := range entries {
		b := laid(e)
		for n := 1; n < len(b); n++ {
			isNotTaken(t, "a frame cut off", b[:n])
			isNotTaken(t, "a frame cut off ahead", b[n:])
		}
		refuses(t, "a frame of which nothing is left", b[:0], 0, api.ErrNone)
	}
}

func TestTakeOfLay(t *testing.T) {
	r := rand.New(rand.NewSource(44))
	for range 3000 {
		e := someEntry(r)
		b, why := frame.Lay(e)
		if why != api.OK || !bytes.Equal(b, laid(e)) {
			t.Fatalf("P4.1: Lay of %v: %v, %v", e, b, why)
		}
		takes(t, "what Lay laid", b, 0, e)
	}
}

// R1

func TestNothingPanics(t *testing.T) {
	r := rand.New(rand.NewSource(45))
	rows := [][]byte{nil, {}, {0}, []byte("HGJE"), make([]byte, 22), make([]byte, 23), bytes.Repeat([]byte{255}, 200), []byte(strings.Repeat("HGJE", 300))}
	for range 200 {
		b := someRow(r)
		rows = append(rows, b, row([]byte("HGJE"), b))
		other := make([]byte, r.Intn(150))
		r.Read(other)
		rows = append(rows, row([]byte("HGJE"), other), other)
	}
	for _, b := range rows {
		for _, at := range oddPlaces(len(b)) {
			_, end, why := frame.Take(b, at)
			if why == api.OK && (end <= at || end > len(b)) {
				t.Errorf("P4.2: Take of %v at %d: the place behind it is %d", b, at, end)
			}
			if got := frame.Seek(b, at); got < -1 || got >= 0 && got < at || got > len(b)-23 && got != -1 {
				t.Errorf("P4.2: Seek of %v from %d: %d", b, at, got)
			}
		}
		if _, n := frame.All(b); n < 0 || n > len(b) {
			t.Errorf("P4.2: All of %v: %d bytes", b, n)
		}
	}
}

// R2

// changed tells whether what act does, and what is written into all its answers, changes what is handed in, or its spare room.
func changed(b []byte, act func(b []byte) [][]byte) bool {
	room := append(bytes.Clone(b), bytes.Repeat([]byte{42}, 300)...)
	kept := bytes.Clone(room)
	for _, answer := range act(room[:len(b)]) {
		for i := range answer[:cap(answer)] {
			answer[:cap(answer)][i] = 13
		}
	}
	return !bytes.Equal(room, kept)
}

func TestAnswersAreNewMemory(t *testing.T) {
	if changed([]byte("abc"), func(b []byte) [][]byte {
		f, _ := frame.Lay(api.Entry{Tag: 1, Seq: 2, Data: b})
		return [][]byte{f}
	}) {
		t.Error("R2: Lay writes into Data, or shares memory with it")
	}
	three := row(laid(entry(1, 2, "abc")), laid(entry(3, 4, long(90))), laid(entry(5, 6, "d")))
	if changed(three, func(b []byte) [][]byte {
		var l [][]byte
		for at := range b {
			e, _, _ := frame.Take(b, at)
			frame.Seek(b, at)
			l = append(l, e.Data)
		}
		return l
	}) {
		t.Error("R2: Take or Seek writes into what is handed in, or Take shares memory with it")
	}
	if changed(three, func(b []byte) [][]byte {
		var l [][]byte
		all, _ := frame.All(b)
		for _, e := range all {
			l = append(l, e.Data)
		}
		return l
	}) {
		t.Error("R2: All writes into what is handed in, or shares memory with it")
	}
}

func TestAnswersShareNoMemory(t *testing.T) {
	three := row(laid(entry(1, 2, "abc")), laid(entry(3, 4, long(90))), laid(entry(5, 6, "d")))
	l, _ := frame.All(three)
	want := []api.Entry{entry(1, 2, "abc"), entry(3, 4, long(90)), entry(5, 6, "d")}
	for i := range l {
		whole := l[i].Data[:cap(l[i].Data)]
		for k := range whole {
			whole[k] = 13
		}
		l[i].Data = append(l[i].Data, 14)
		for j := i + 1; j < len(l); j++ {
			if !same(l[j], want[j]) {
				t.Errorf("R2: entries %d and %d of one All share memory", i, j)
			}
		}
	}
	isAll(t, "what was written into an earlier answer", three, len(three), want...)
	e, _, _ := frame.Take(three, 0)
	e.Data[0] = 'x'
	takes(t, "what was written into an earlier answer", three, 0, want[0])
	first, _ := frame.Lay(want[0])
	first[0] = 'x'
	if second, _ := frame.Lay(want[0]); !bytes.Equal(second, laid(want[0])) {
		t.Error("R2: two answers of Lay share memory")
	}
}

// R4

func TestNilIsEmpty(t *testing.T) {
	for _, b := range [][]byte{nil, {}} {
		refuses(t, "nothing", b, 0, api.ErrNone)
		refuses(t, "nothing", b, 1, api.ErrRange)
		isAll(t, "nothing", b, 0)
		isAt(t, "nothing", b, 0, -1)
		if _, why := frame.Lay(api.Entry{Tag: 1, Seq: 1, Data: b}); why != api.ErrArg {
			t.Errorf("R4: Lay of no Data: %v", why)
		}
	}
}

// R5

func TestSpareRoomIsNotRead(t *testing.T) {
	b := row(laid(entry(1, 2, "abc")), laid(entry(3, 4, "d")))
	refuses(t, "a frame in spare room", b[:0], 0, api.ErrNone)
	for n := 1; n < 25; n++ {
		refuses(t, "a frame whose end lies in spare room", b[:n], 0, api.ErrForm)
		isAll(t, "a frame whose end lies in spare room", b[:n], 0)
		isAt(t, "a frame whose end lies in spare room", b[:n], 0, -1)
	}
	isAll(t, "a second frame in spare room", b[:25], 25, entry(1, 2, "abc"))
	isAt(t, "a second frame in spare room", b[:47], 1, -1)
	data := []byte(long(200))
	if got, why := frame.Lay(api.Entry{Tag: 1, Seq: 2, Data: data[:3]}); why != api.OK || !bytes.Equal(got, laid(entry(1, 2, long(3)))) {
		t.Errorf("R5: Lay reads Data's spare room: %v, %v", got, why)
	}
}
