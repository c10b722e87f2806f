package client_test

import (
	"bytes"
	"encoding/binary"
	"fmt"
	"math"
	"math/rand"
	"slices"
	"sort"
	"testing"

	"hectograph/api"
	"hectograph/client"
)

// on and off are clients who are waited for, and who aren't.
func on(id, pos int) api.Client {
	return api.Client{ID: id, Pos: pos}
}

func off(id, pos int) api.Client {
	return api.Client{ID: id, Pos: pos, Off: true}
}

// list is a list of those.
func list(l ...api.Client) []api.Client {
	return l
}

// far is numbers that are nowhere near a limit, those among them whose lowest bits are a number that may be, or which an addition may carry over the edge.
func far() []int {
	return []int{math.MinInt, math.MinInt + 1, math.MinInt + 2, math.MinInt + api.MaxID, math.MinInt + api.MaxSeq, -api.MaxSeq, -api.MaxID, math.MinInt32, -1 << 32, 1<<41 + 1, 1 << 62, 1<<62 + 1, math.MaxInt - api.MaxSeq, math.MaxInt - api.MaxID, math.MaxInt - 1, math.MaxInt}
}

// ids and poses are numbers at the edges and far off: those that may be, and those that may not.
func ids() (good, bad []int) {
	return []int{1, 2, 3, 127, 128, 255, 256, 16383, 16384, 1<<30 - 1, 1 << 30}, append(far(), -2, -1, 0, 1<<30+1, 1<<30+2, 1<<31, 1<<32, 1<<32+1, 1<<40)
}

func poses() (good, bad []int) {
	return []int{0, 1, 2, 127, 128, 255, 256, 16383, 16384, 1<<30 + 1, 1 << 32, 1<<40 - 1, 1 << 40}, append(far(), -2, -1, 1<<40+1, 1<<40+2, 1<<41)
}

// right is lists that may be a journal's clients, the edges among them.
func right() [][]api.Client {
	l := [][]api.Client{
		nil, {},
		list(on(1, 5), off(3, 2), on(9, 7)), list(on(1, 0), on(2, 0), on(3, 0), on(4, 0)), list(off(1, 9), off(2, 8), off(3, 7), off(4, 6)), list(on(1, 4), off(2, 3), on(3, 2), off(4, 1)),
		list(on(api.MaxID-1, 0), on(api.MaxID, api.MaxSeq)), list(on(1, api.MaxSeq), off(api.MaxID, 0)), list(on(1, api.MaxSeq), on(2, api.MaxSeq), on(3, api.MaxSeq-1)),
		list(on(api.MaxID-3, 1), off(api.MaxID-2, 1), on(api.MaxID-1, 1), off(api.MaxID, 1)), list(on(api.Master, 3), on(api.Mirror, 3), on(api.Shadow, 3)), list(on(127, 128), off(128, 127), on(16383, 16384), off(16384, 16383)),
	}
	good, _ := ids()
	where, _ := poses()
	for _, id := range good {
		for _, pos := range where {
			l = append(l, list(on(id, pos)), list(off(id, pos)))
		}
	}
	return l
}

// wrong is lists that are none: each field at its edge and far off, at each place, and IDs that do not rise.
func wrong() [][]api.Client {
	l := [][]api.Client{{{}}, {{}, {}}, {on(1, 0), {}}, rising(5), rising(6), rising(100), make([]api.Client, 1<<8), rising(1 << 8), rising(1<<8 + 1), rising(1 << 16), rising(1<<16 + 1)}
	_, bad := ids()
	for _, id := range bad {
		l = append(l, list(on(id, 0)), list(off(id, 3)), list(on(1, 0), on(id, 0)), list(on(id, 0), on(api.MaxID, 0)), list(on(1, 0), on(2, 0), on(3, 0), on(id, 0)))
	}
	_, bad = poses()
	for _, pos := range bad {
		l = append(l, list(on(1, pos)), list(off(1, pos)), list(on(1, 0), on(2, pos)), list(on(1, pos), on(2, 0)), list(on(1, 0), off(2, pos), on(3, 0)), list(on(1, 0), on(2, 0), on(3, 0), off(4, pos)))
	}
	return append(l,
		list(on(1, 0), on(1, 0)), list(on(1, 0), off(1, 5)), list(on(2, 0), on(1, 0)), list(on(api.MaxID, 0), on(api.MaxID, 0)), list(on(api.MaxID, 0), on(1, 0)), list(on(1, 0), on(2, 0), on(2, 0)), list(on(1, 0), on(3, 0), on(2, 0)),
		list(on(2, 0), on(1, 0), on(3, 0)), list(on(1, 0), on(2, 0), on(1, 0)), list(on(1, 0), on(2, 0), on(3, 0), on(3, 9)), list(on(1, 0), on(2, 0), on(4, 0), on(3, 0)), list(on(1, 0), on(1, 0), on(2, 0), on(3, 0)), list(on(4, 0), on(3, 0), on(2, 0), on(1, 0)))
}

// rising is n clients of the IDs 1, 2 and so on.
func rising(n int) []api.Client {
	l := make([]api.Client, n)
	for i := range l {
		l[i] = api.Client{ID: i + 1, Pos: 3 * i, Off: i%2 == 1}
	}
	return l
}

// numbers is all fields of all clients of l, one behind the other.
func numbers(l []api.Client) []int {
	var all []int
	for _, c := range l {
		last := 0
		if c.Off {
			last = 1
		}
		all = append(all, c.ID, c.Pos, last)
	}
	return all
}

// byHand is l in bytes, its numbers as Go's own library lays them.
func byHand(l []api.Client) []byte {
	b := binary.AppendUvarint(nil, uint64(len(l)))
	for _, n := range numbers(l) {
		b = binary.AppendUvarint(b, uint64(n))
	}
	return b
}

// same is whether a and b are alike in all.
func same(a, b []api.Client) bool {
	return fmt.Sprint(numbers(a)) == fmt.Sprint(numbers(b))
}

// tell is l in few words, however long it is.
func tell(l []api.Client) string {
	return fmt.Sprintf("%d clients %.200s", len(l), fmt.Sprint(l[:min(len(l), 40)]))
}

// legal is what Right should tell, put otherwise than by what is ahead: IDs in order and no two alike.
func legal(l []api.Client) bool {
	if len(l) > 4 {
		return false
	}
	seen := map[int]bool{}
	for _, c := range l {
		if c.ID < 1 || c.ID > 1<<30 || c.Pos < 0 || c.Pos > 1<<40 || seen[c.ID] {
			return false
		}
		seen[c.ID] = true
	}
	return sort.SliceIsSorted(l, func(a, b int) bool { return l[a].ID < l[b].ID })
}

// isRight fails the test, unless Right tells want, and Put goes by it.
func isRight(t *testing.T, l []api.Client, want bool) {
	t.Helper()
	if got := client.Right(l); got != want {
		t.Errorf("P7.1: Right of %s: %v", tell(l), got)
	}
	b, why := client.Put(l)
	if want && (why != api.OK || !bytes.Equal(b, byHand(l))) || !want && why != api.ErrArg {
		t.Errorf("P7.1: Put of %s: %v, %v", tell(l), b, why)
	}
	if !want && len(b) > 0 {
		t.Errorf("R3: Put of %s answers %v beside a refusal", tell(l), b)
	}
}

// refuses fails the test, unless Get refuses b, and answers nothing beside that.
func refuses(t *testing.T, what string, b []byte) {
	t.Helper()
	l, why := client.Get(b)
	if why != api.ErrForm {
		t.Errorf("P7.1: Get of %s, %d bytes %v: %v, not ErrForm", what, len(b), b[:min(len(b), 60)], why)
	}
	if len(l) > 0 {
		t.Errorf("R3: Get of %s, %d bytes %v, answers %s beside a refusal", what, len(b), b[:min(len(b), 60)], tell(l))
	}
}

// gets fails the test, unless Get answers want.
func gets(t *testing.T, b []byte, want []api.Client) {
	t.Helper()
	if l, why := client.Get(b); why != api.OK || !same(l, want) {
		t.Errorf("P7.1: Get of %v: %s, %v, not %s", b, tell(l), why, tell(want))
	}
}

// read is the list whose bytes, as Go's own library lays them, are just b; false, if none that may be has such.
func read(b []byte) ([]api.Client, bool) {
	var all []int
	for rest := b; len(rest) > 0; {
		n, width := binary.Uvarint(rest)
		if width < 1 || width > 1 && rest[width-1] == 0 || n > 1<<40 {
			return nil, false
		}
		all = append(all, int(n))
		rest = rest[width:]
	}
	if len(all) == 0 || len(all) != 1+3*all[0] {
		return nil, false
	}
	var l []api.Client
	for i := 1; i < len(all); i += 3 {
		if all[i+2] > 1 {
			return nil, false
		}
		l = append(l, api.Client{ID: all[i], Pos: all[i+1], Off: all[i+2] == 1})
	}
	return l, legal(l)
}

// sound fails the test, unless Get reads b as read does.
func sound(t *testing.T, b []byte) {
	t.Helper()
	l, why := client.Get(b)
	want, ok := read(b)
	if ok && (why != api.OK || !same(l, want)) || !ok && (why != api.ErrForm || len(l) > 0) {
		t.Errorf("P7.1: Get of %d bytes %v: %s, %v", len(b), b[:min(len(b), 60)], tell(l), why)
	}
}

// P7.1: Right

func TestRight(t *testing.T) {
	for _, l := range right() {
		isRight(t, l, true)
	}
	for _, l := range wrong() {
		isRight(t, l, false)
	}
}

func TestRightOfHowMany(t *testing.T) {
	for n := range 300 {
		isRight(t, rising(n), n <= 4)
	}
	isRight(t, rising(1<<20), false)
}

// TestRightOfEachNumber: of each ID with each Pos, alone and at each place among others.
func TestRightOfEachNumber(t *testing.T) {
	good, bad := ids()
	where, nowhere := poses()
	for _, id := range append(good, bad...) {
		for _, pos := range append(where, nowhere...) {
			c := api.Client{ID: id, Pos: pos, Off: (id+pos)%2 == 0}
			for _, l := range [][]api.Client{{c}, {c, on(200, 1)}, {on(200, 1), c}, {on(100, 1), c, on(20000, 1)}, {on(100, 1), on(200, 2), c, on(20000, 1)}, {on(5, 1), on(6, 1), on(7, 1), c}, {c, on(5, 1), on(6, 1), on(7, 1)}} {
				if got := client.Right(l); got != legal(l) {
					t.Fatalf("P7.1: Right of %s: %v", tell(l), got)
				}
			}
		}
	}
}

// short is all lists of up to most clients of few numbers, whether they may be or not.
func short(most int) [][]api.Client {
	all := [][]api.Client{nil}
	last := all
	for range most {
		var next [][]api.Client
		for _, l := range last {
			for id := 0; id <= 3; id++ {
				for pos := -1; pos <= 1; pos++ {
					next = append(next, append(slices.Clone(l), on(id, pos)))
					if pos == 1 {
						next = append(next, append(slices.Clone(l), off(id, pos)))
					}
				}
			}
		}
		all = append(all, next...)
		last = next
	}
	return all
}

func TestRightOfEachShortList(t *testing.T) {
	for _, l := range short(4) {
		if got := client.Right(l); got != legal(l) {
			t.Fatalf("P7.1: Right of %s: %v", tell(l), got)
		}
	}
}

// TestRightOfEachOrder: all rows of five IDs, of each length.
func TestRightOfEachOrder(t *testing.T) {
	for code := range 6 * 6 * 6 * 6 * 6 {
		var l []api.Client
		for n := code; n > 0; n /= 6 {
			l = append(l, on(n%6, 2))
		}
		isRight(t, l, legal(l))
	}
}

// P7.1: Put

// TestPutByHand: the bytes written out, so that no number is reckoned here.
func TestPutByHand(t *testing.T) {
	for _, c := range []struct {
		l    []api.Client
		want string
	}{
		{nil, "\x00"},
		{list(), "\x00"},
		{list(on(1, 0)), "\x01\x01\x00\x00"},
		{list(off(1, 0)), "\x01\x01\x00\x01"},
		{list(on(127, 127)), "\x01\x7f\x7f\x00"},
		{list(off(128, 128)), "\x01\x80\x01\x80\x01\x01"},
		{list(on(300, 5), off(301, 0)), "\x02\xac\x02\x05\x00\xad\x02\x00\x01"},
		{list(on(1, 5), off(3, 2), on(9, 7)), "\x03\x01\x05\x00\x03\x02\x01\x09\x07\x00"},
		{list(on(1, 0), on(2, 1), off(3, 2), off(4, 3)), "\x04\x01\x00\x00\x02\x01\x00\x03\x02\x01\x04\x03\x01"},
		{list(on(1<<30, 1<<40)), "\x01\x80\x80\x80\x80\x04\x80\x80\x80\x80\x80\x20\x00"},
	} {
		if got, why := client.Put(c.l); why != api.OK || string(got) != c.want {
			t.Errorf("P7.1: Put of %s: %q, %v, not %q", tell(c.l), got, why, c.want)
		}
		gets(t, []byte(c.want), c.l)
	}
}

// P7.1: Get

func TestGet(t *testing.T) {
	for _, l := range right() {
		gets(t, byHand(l), l)
	}
}

func TestGetOfNothing(t *testing.T) {
	refuses(t, "nil", nil)
	refuses(t, "no byte", []byte{})
	refuses(t, "no byte, with a Put as its room", byHand(list(on(1, 0)))[:0])
	refuses(t, "no byte, with the Put of none as its room", byHand(nil)[:0])
}

func TestGetOfEachLengthCutOff(t *testing.T) {
	for _, l := range right() {
		b := byHand(l)
		for n := range b {
			refuses(t, "a Put cut off", b[:n])
			sound(t, b[n+1:])
			sound(t, append(bytes.Clone(b[:n]), b[n+1:]...))
		}
	}
}

func TestGetOfAByteMore(t *testing.T) {
	for _, l := range right() {
		b := byHand(l)
		for c := range 256 {
			refuses(t, "a Put, a byte behind it", append(bytes.Clone(b), byte(c)))
		}
		refuses(t, "a Put, a byte ahead of it", append([]byte{0}, b...))
		refuses(t, "two Puts", append(bytes.Clone(b), b...))
		refuses(t, "a Put, a client more behind it", append(bytes.Clone(b), binary.AppendUvarint(nil, 1<<30)...))
		refuses(t, "a Put, many bytes behind it", append(bytes.Clone(b), make([]byte, 5000)...))
	}
}

// TestGetOfEachShortRow: of all rows of up to two bytes, and of many of three to seven, just those are read that are a Put.
func TestGetOfEachShortRow(t *testing.T) {
	for code := range 1 << 16 {
		b := []byte{byte(code), byte(code >> 8)}
		sound(t, b[:1])
		sound(t, b)
		for _, c := range []byte{0, 1, 2, 127, 128} {
			sound(t, append([]byte{1}, append(b, c)...))
			sound(t, append([]byte{1, c}, b...))
			sound(t, append([]byte{2, 1, c, 0}, append(b, 1)...))
		}
	}
	few := []byte{0, 1, 2, 3, 127, 128, 129}
	rows := [][]byte{{0}, {1}, {2}, {5}, {128}}
	for n := range 6 {
		if n == 5 {
			rows = rows[:len(rows)/2]
		}
		var next [][]byte
		for _, b := range rows {
			for _, c := range few {
				row := append(bytes.Clone(b), c)
				sound(t, row)
				next = append(next, row)
			}
		}
		rows = next
	}
}

// TestGetOfAnyOff: Off is 0 or 1, and nothing else, at each place.
func TestGetOfAnyOff(t *testing.T) {
	for _, l := range right() {
		for i := range l {
			for n := range 300 {
				b := with(l, 3*i+3, binary.AppendUvarint(nil, uint64(n)))
				other := slices.Clone(l)
				other[i].Off = n == 1
				if n < 2 {
					gets(t, b, other)
				} else {
					refuses(t, "an Off of more than 1", b)
				}
			}
			refuses(t, "an Off that is far off", with(l, 3*i+3, binary.AppendUvarint(nil, 1<<32)))
			refuses(t, "an Off that is far off", with(l, 3*i+3, binary.AppendUvarint(nil, 1<<32+1)))
			refuses(t, "an Off that is far off", with(l, 3*i+3, binary.AppendUvarint(nil, math.MaxUint64)))
		}
	}
}

// with is the bytes of l, but that the number at that place (0: how many clients) is laid as b.
func with(l []api.Client, place int, b []byte) []byte {
	var row []byte
	for i, n := range append([]int{len(l)}, numbers(l)...) {
		if i == place {
			row = append(row, b...)
		} else {
			row = binary.AppendUvarint(row, uint64(n))
		}
	}
	return row
}

// spelt is other rows that n might be read from, if longer Vars were read: with noughts behind them, one to the ninth byte, and beyond it.
func spelt(n int) [][]byte {
	var l [][]byte
	for more := 1; more <= 10; more++ {
		b := binary.AppendUvarint(nil, uint64(n))
		for range more {
			b[len(b)-1] |= 128
			b = append(b, 0)
		}
		l = append(l, b)
	}
	return l
}

func TestGetOfLongerVars(t *testing.T) {
	for _, l := range right() {
		for i, n := range append([]int{len(l)}, numbers(l)...) {
			for _, b := range spelt(n) {
				refuses(t, "a Put with a longer Var", with(l, i, b))
			}
		}
	}
	// A number that goes on to b's end is none.
	for n := range 30 {
		for _, c := range []byte{128, 129, 255} {
			for _, ahead := range []string{"", "\x01", "\x01\x01", "\x01\x01\x00", "\x02\x01\x00\x00", "\x02\x01\x00\x00\x02", "\x02\x01\x00\x00\x02\x00"} {
				refuses(t, "a Var that doesn't end", append([]byte(ahead), bytes.Repeat([]byte{c}, n+1)...))
			}
		}
	}
}

// TestGetOfNumbersBeyond: each number of a Put beyond its limit, by one and by far, or one whose lowest bits are those of the number that belongs there.
func TestGetOfNumbersBeyond(t *testing.T) {
	great := []uint64{1<<40 + 1, 1 << 41, 1 << 62, math.MaxInt - 1, math.MaxInt, math.MaxInt + 1, math.MaxInt + 2, math.MaxUint64 - 1, math.MaxUint64}
	for _, l := range right() {
		for i, n := range append([]int{len(l)}, numbers(l)...) {
			all := append(great, 1<<41|uint64(n), 1<<62|uint64(n), 1<<63|uint64(n))
			if i%3 != 2 || i == 0 {
				all = append(all, 1<<30+1, 1<<31, 1<<32, 1<<32+1, 1<<32|uint64(n)+1<<33)
			}
			if i%3 == 1 {
				all = append(all, 0)
			}
			for _, high := range all {
				refuses(t, "a number beyond its limit", with(l, i, binary.AppendUvarint(nil, high)))
			}
		}
	}
}

func TestGetOfHowMany(t *testing.T) {
	for n := 5; n < 140; n++ {
		refuses(t, "more than MaxClients", byHand(rising(n)))
		for told := range 10 {
			if told != n {
				refuses(t, "more than MaxClients, told as fewer", with(rising(n), 0, []byte{byte(told)}))
			}
		}
		refuses(t, "more than MaxClients who aren't there", binary.AppendUvarint(nil, uint64(n)))
	}
	for _, n := range []int{256, 257, 1 << 16, 1<<16 + 1} {
		refuses(t, "more than MaxClients", byHand(rising(n)))
	}
	for n := range 5 {
		gets(t, byHand(rising(n)), rising(n))
		for told := range 300 {
			if told != n {
				refuses(t, "another count", with(rising(n), 0, binary.AppendUvarint(nil, uint64(told))))
			}
		}
		for _, told := range []uint64{1 << 32, 1<<32 + uint64(n), math.MaxInt, math.MaxUint64, 1<<63 + uint64(n)} {
			refuses(t, "another count", with(rising(n), 0, binary.AppendUvarint(nil, told)))
		}
	}
	refuses(t, "a count of 0, and a client", []byte{0, 1, 0, 0})
	refuses(t, "the greatest count", []byte{255, 255, 255, 255, 255, 255, 255, 255, 127})
}

// TestGetOfWhatIsNotRight: well laid, but no journal's clients.
func TestGetOfWhatIsNotRight(t *testing.T) {
	for _, l := range append(wrong(), short(3)...) {
		if !legal(l) {
			refuses(t, "what isn't Right", byHand(l))
		}
	}
}

// TestGetOfTurnedBytes: each byte of a Put as each other one: refused, or the list that lies there now.
func TestGetOfTurnedBytes(t *testing.T) {
	for _, l := range right() {
		b := byHand(l)
		for i := range b {
			for c := range 256 {
				odd := bytes.Clone(b)
				odd[i] = byte(c)
				sound(t, odd)
			}
		}
	}
}

// P7.2: Add, Drop, Commit, Turn

// deed is a call that answers another list of clients, its ID and Pos given; pos tells whether it takes one.
type deed struct {
	name string
	pos  bool
	do   func(l []api.Client, id, pos int) ([]api.Client, api.Errno)
	want func(l []api.Client, id, pos int) ([]api.Client, api.Errno)
}

func deeds() []deed {
	turn := func(to bool) (a, b func(l []api.Client, id, pos int) ([]api.Client, api.Errno)) {
		a = func(l []api.Client, id, _ int) ([]api.Client, api.Errno) { return client.Turn(l, id, to) }
		b = func(l []api.Client, id, _ int) ([]api.Client, api.Errno) {
			return each(l, id, func(c api.Client) []api.Client { return list(api.Client{ID: c.ID, Pos: c.Pos, Off: to}) })
		}
		return a, b
	}
	up, wantUp := turn(true)
	down, wantDown := turn(false)
	return []deed{
		{"Add", true, client.Add, added},
		{"Drop", false, func(l []api.Client, id, _ int) ([]api.Client, api.Errno) { return client.Drop(l, id) }, func(l []api.Client, id, _ int) ([]api.Client, api.Errno) {
			return each(l, id, func(api.Client) []api.Client { return nil })
		}},
		{"Commit", true, client.Commit, func(l []api.Client, id, pos int) ([]api.Client, api.Errno) {
			return each(l, id, func(c api.Client) []api.Client {
				if pos > c.Pos {
					c.Pos = pos
				}
				return list(c)
			})
		}},
		{"Turn Off", false, up, wantUp},
		{"Turn not Off", false, down, wantDown},
	}
}

// each is what a deed should answer that makes f of the client of that ID, and leaves the others.
func each(l []api.Client, id int, f func(c api.Client) []api.Client) ([]api.Client, api.Errno) {
	var out []api.Client
	why := api.ErrNone
	for _, c := range l {
		if c.ID == id {
			out = append(out, f(c)...)
			why = api.OK
		} else {
			out = append(out, c)
		}
	}
	if why != api.OK {
		return nil, why
	}
	return out, why
}

// added is what Add should answer, the order made by sorting.
func added(l []api.Client, id, pos int) ([]api.Client, api.Errno) {
	for _, c := range l {
		if c.ID == id {
			return nil, api.ErrThere
		}
	}
	if len(l) >= 4 {
		return nil, api.ErrFull
	}
	out := append(slices.Clone(l), on(id, pos))
	sort.Slice(out, func(a, b int) bool { return out[a].ID < out[b].ID })
	return out, api.OK
}

// asTold fails the test, unless each deed answers what it should, of any list, ID and Pos.
func asTold(t *testing.T, l []api.Client, id, pos int) {
	t.Helper()
	may := legal(l) && id >= 1 && id <= 1<<30
	for _, d := range deeds() {
		want, no := []api.Client(nil), api.ErrArg
		if may && !(d.pos && (pos < 0 || pos > 1<<40)) {
			want, no = d.want(l, id, pos)
		}
		got, why := d.do(l, id, pos)
		if why != no || !same(got, want) {
			t.Errorf("P7.2: %s of %s, ID %d, Pos %d: %s, %v, not %s, %v", d.name, tell(l), id, pos, tell(got), why, tell(want), no)
		}
		if why == api.OK && !client.Right(got) {
			t.Errorf("P7.2: %s of %s, ID %d, Pos %d: %s isn't Right", d.name, tell(l), id, pos, tell(got))
		}
	}
}

// does fails the test, unless what was answered is just that, written out.
func does(t *testing.T, what string, l []api.Client, why api.Errno, want string, no api.Errno) {
	t.Helper()
	if fmt.Sprint(l) != want || why != no {
		t.Errorf("P7.2: %s: %v, %v, not %s, %v", what, l, why, want, no)
	}
}

func TestAdd(t *testing.T) {
	two, four := list(off(3, 9), on(7, 2)), rising(4)
	for _, c := range []struct {
		what    string
		l       []api.Client
		id, pos int
		want    string
		no      api.Errno
	}{
		{"to none", nil, 1, 0, "[{1 0 false}]", api.OK},
		{"to none, at the limits", nil, api.MaxID, api.MaxSeq, fmt.Sprintf("[{%d %d false}]", 1<<30, 1<<40), api.OK},
		{"ahead of all", two, 2, 5, "[{2 5 false} {3 9 true} {7 2 false}]", api.OK},
		{"ahead of all, the least", two, 1, 0, "[{1 0 false} {3 9 true} {7 2 false}]", api.OK},
		{"between two", two, 4, 5, "[{3 9 true} {4 5 false} {7 2 false}]", api.OK},
		{"between two, nearer", two, 6, 1, "[{3 9 true} {6 1 false} {7 2 false}]", api.OK},
		{"behind all", two, 8, 5, "[{3 9 true} {7 2 false} {8 5 false}]", api.OK},
		{"who is there, the first", two, 3, 9, "[]", api.ErrThere},
		{"who is there, the last", two, 7, 5, "[]", api.ErrThere},
		{"the fourth", rising(3), 9, 1, "[{1 0 false} {2 3 true} {3 6 false} {9 1 false}]", api.OK},
		{"to a full list", four, 5, 0, "[]", api.ErrFull},
		{"to a full list, a great one", four, api.MaxID, api.MaxSeq, "[]", api.ErrFull},
		{"to a full list that has it", four, 4, 0, "[]", api.ErrThere},
		{"to a full list that has it, the first", four, 1, 0, "[]", api.ErrThere},
		{"ID 0", nil, 0, 0, "[]", api.ErrArg},
		{"an ID too great", nil, api.MaxID + 1, 0, "[]", api.ErrArg},
		{"a Pos below 0", nil, 1, -1, "[]", api.ErrArg},
		{"a Pos too great", nil, 1, api.MaxSeq + 1, "[]", api.ErrArg},
		{"who is there, a Pos too great", two, 3, api.MaxSeq + 1, "[]", api.ErrArg},
		{"to a full list, ID 0", four, 0, 0, "[]", api.ErrArg},
		{"to a full list, a Pos below 0", four, 5, -1, "[]", api.ErrArg},
		{"to more than may be", rising(5), 9, 0, "[]", api.ErrArg},
		{"to more than may be, who is there", rising(5), 5, 0, "[]", api.ErrArg},
		{"to two that fall", list(on(2, 0), on(1, 0)), 3, 0, "[]", api.ErrArg},
	} {
		l, why := client.Add(c.l, c.id, c.pos)
		does(t, "Add "+c.what, l, why, c.want, c.no)
	}
}

func TestDrop(t *testing.T) {
	some := list(on(1, 5), off(3, 2), on(9, 7))
	for _, c := range []struct {
		what string
		l    []api.Client
		id   int
		want string
		no   api.Errno
	}{
		{"of none", nil, 1, "[]", api.ErrNone},
		{"of none", list(), api.MaxID, "[]", api.ErrNone},
		{"the only one", list(on(4, 4)), 4, "[]", api.OK},
		{"the first", some, 1, "[{3 2 true} {9 7 false}]", api.OK},
		{"the middle one", some, 3, "[{1 5 false} {9 7 false}]", api.OK},
		{"the last", some, 9, "[{1 5 false} {3 2 true}]", api.OK},
		{"who isn't there", some, 2, "[]", api.ErrNone},
		{"who isn't there, behind all", some, 10, "[]", api.ErrNone},
		{"ID 0", some, 0, "[]", api.ErrArg},
		{"an ID below 0", some, -1, "[]", api.ErrArg},
		{"the greatest ID", some, api.MaxID, "[]", api.ErrNone},
		{"an ID too great", some, api.MaxID + 1, "[]", api.ErrArg},
		{"of two alike", list(on(2, 0), on(2, 0)), 2, "[]", api.ErrArg},
		{"of ID 0, which is there", list(on(0, 0)), 0, "[]", api.ErrArg},
		{"of too many", rising(5), 2, "[]", api.ErrArg},
	} {
		l, why := client.Drop(c.l, c.id)
		does(t, "Drop "+c.what, l, why, c.want, c.no)
	}
}

func TestCommit(t *testing.T) {
	some := list(on(1, 5), off(3, 2), on(9, 7))
	for _, c := range []struct {
		what    string
		l       []api.Client
		id, pos int
		want    string
		no      api.Errno
	}{
		{"above", some, 1, 6, "[{1 6 false} {3 2 true} {9 7 false}]", api.OK},
		{"above, the middle one, who stays Off", some, 3, 4, "[{1 5 false} {3 4 true} {9 7 false}]", api.OK},
		{"above, the last, to the limit", some, 9, api.MaxSeq, fmt.Sprintf("[{1 5 false} {3 2 true} {9 %d false}]", 1<<40), api.OK},
		{"alike", some, 1, 5, "[{1 5 false} {3 2 true} {9 7 false}]", api.OK},
		{"below", some, 1, 4, "[{1 5 false} {3 2 true} {9 7 false}]", api.OK},
		{"below, 0", some, 9, 0, "[{1 5 false} {3 2 true} {9 7 false}]", api.OK},
		{"0 of 0", list(on(1, 0)), 1, 0, "[{1 0 false}]", api.OK},
		{"below 0", some, 1, -1, "[]", api.ErrArg},
		{"beyond the limit", some, 1, api.MaxSeq + 1, "[]", api.ErrArg},
		{"who isn't there", some, 2, 6, "[]", api.ErrNone},
		{"who isn't there, beyond the limit", some, 2, api.MaxSeq + 1, "[]", api.ErrArg},
		{"of none", nil, 1, 0, "[]", api.ErrNone},
		{"ID 0", some, 0, 6, "[]", api.ErrArg},
		{"an ID too great", some, api.MaxID + 1, 6, "[]", api.ErrArg},
		{"of two alike", list(on(2, 0), on(2, 0)), 2, 1, "[]", api.ErrArg},
		{"of a Pos that is too great already", list(on(2, api.MaxSeq+1)), 2, 1, "[]", api.ErrArg},
		{"of too many", rising(5), 2, 9, "[]", api.ErrArg},
	} {
		l, why := client.Commit(c.l, c.id, c.pos)
		does(t, "Commit "+c.what, l, why, c.want, c.no)
	}
}

func TestTurn(t *testing.T) {
	some := list(on(1, 5), off(3, 2), on(9, 7))
	for _, c := range []struct {
		what string
		l    []api.Client
		id   int
		off  bool
		want string
		no   api.Errno
	}{
		{"Off, who isn't", some, 1, true, "[{1 5 true} {3 2 true} {9 7 false}]", api.OK},
		{"Off, who is", some, 3, true, "[{1 5 false} {3 2 true} {9 7 false}]", api.OK},
		{"not Off, who is", some, 3, false, "[{1 5 false} {3 2 false} {9 7 false}]", api.OK},
		{"not Off, who isn't", some, 9, false, "[{1 5 false} {3 2 true} {9 7 false}]", api.OK},
		{"the last", some, 9, true, "[{1 5 false} {3 2 true} {9 7 true}]", api.OK},
		{"who isn't there", some, 4, true, "[]", api.ErrNone},
		{"who isn't there", some, 4, false, "[]", api.ErrNone},
		{"of none", nil, 1, false, "[]", api.ErrNone},
		{"ID 0", some, 0, true, "[]", api.ErrArg},
		{"an ID too great", some, api.MaxID + 1, false, "[]", api.ErrArg},
		{"of two that fall", list(on(3, 0), on(2, 0)), 2, true, "[]", api.ErrArg},
		{"of too many", rising(5), 2, true, "[]", api.ErrArg},
	} {
		l, why := client.Turn(c.l, c.id, c.off)
		does(t, "Turn "+c.what, l, why, c.want, c.no)
	}
}

// TestDeedsAtEachEdge: all deeds of many lists, with each ID and Pos that is an edge.
func TestDeedsAtEachEdge(t *testing.T) {
	goodIDs, badIDs := ids()
	goodPoses, badPoses := poses()
	lists := [][]api.Client{nil, rising(1), rising(2), rising(3), rising(4), rising(5), list(off(1, 7), on(127, 200), off(api.MaxID, 9)), list(on(2, 1), off(128, api.MaxSeq), on(256, 0), on(16384, 1<<32)), list(on(2, 1), on(2, 1)), list(on(3, 1), on(2, 1)), list(on(0, 0)), list(on(1, -1))}
	for _, l := range lists {
		for _, id := range append(goodIDs, badIDs...) {
			for _, pos := range append(goodPoses, badPoses...) {
				asTold(t, l, id, pos)
			}
		}
	}
}

func TestDeedsOfEachList(t *testing.T) {
	for _, l := range append(right(), wrong()...) {
		for id := -1; id < 7; id++ {
			asTold(t, l, id, 4)
		}
		for _, c := range l[:min(len(l), 7)] {
			asTold(t, l, c.ID, c.Pos)
			asTold(t, l, c.ID, c.Pos-1)
			asTold(t, l, c.ID, c.Pos+1)
			asTold(t, l, c.ID-1, 0)
			asTold(t, l, c.ID+1, 0)
		}
	}
}

func TestDeedsOfEachShortList(t *testing.T) {
	for _, l := range short(3) {
		for id := 0; id <= 4; id++ {
			for pos := -1; pos <= 2; pos++ {
				asTold(t, l, id, pos)
			}
		}
	}
}

// P7.2: Find, Slowest

func finds(t *testing.T, l []api.Client, id int, want api.Client, there bool) {
	t.Helper()
	if got, ok := client.Find(l, id); got != want || ok != there {
		t.Errorf("P7.2: Find of %s, ID %d: %v, %v, not %v, %v", tell(l), id, got, ok, want, there)
	}
}

func TestFind(t *testing.T) {
	some := list(on(1, 5), off(3, 2), on(9, 7))
	for i, c := range some {
		finds(t, some, c.ID, c, true)
		finds(t, some[:i], c.ID, api.Client{}, false)
	}
	for _, id := range append(far(), -1, 0, 2, 4, 10, 257, 1<<32+1) {
		finds(t, some, id, api.Client{}, false)
		finds(t, nil, id, api.Client{}, false)
		finds(t, list(), id, api.Client{}, false)
		// Of any list: what isn't Right is searched too.
		finds(t, list(on(6, 1), off(id, -8), on(id, 9)), id, off(id, -8), true)
	}
	finds(t, list(on(2, 1), on(2, 2)), 2, on(2, 1), true)
	finds(t, list(on(2, 2), off(2, 1), on(2, 0)), 2, on(2, 2), true)
	finds(t, list(on(5, 1), on(4, 2), off(3, 3)), 3, off(3, 3), true)
	finds(t, list(on(5, 1), on(4, 2), off(5, 3)), 5, on(5, 1), true)
	finds(t, list(api.Client{}), 0, api.Client{}, true)
	finds(t, rising(1<<20), 1<<20, api.Client{ID: 1 << 20, Pos: 3 * (1<<20 - 1), Off: true}, true)
	finds(t, rising(1<<20), 1<<20+1, api.Client{}, false)
}

func slowest(t *testing.T, l []api.Client, want int, some bool) {
	t.Helper()
	if got, ok := client.Slowest(l); got != want || ok != some {
		t.Errorf("P7.2: Slowest of %s: %d, %v, not %d, %v", tell(l), got, ok, want, some)
	}
}

func TestSlowest(t *testing.T) {
	slowest(t, nil, 0, false)
	slowest(t, list(), 0, false)
	slowest(t, list(on(1, 0)), 0, true)
	slowest(t, list(on(1, 7)), 7, true)
	slowest(t, list(off(1, 7)), 0, false)
	slowest(t, list(off(1, 7), off(2, 3), off(3, 0), off(4, 9)), 0, false)
	slowest(t, list(on(1, 5), off(3, 2), on(9, 7)), 5, true)
	slowest(t, list(on(1, 7), off(3, 2), on(9, 5)), 5, true)
	slowest(t, list(off(1, 1), off(3, 2), on(9, 5)), 5, true)
	slowest(t, list(on(1, 5), off(3, 2), off(9, 1)), 5, true)
	slowest(t, list(on(1, 5), on(2, 5), on(3, 5)), 5, true)
	slowest(t, list(on(1, 6), on(2, 5), on(3, 6), on(4, 5)), 5, true)
	slowest(t, list(on(1, 6), on(2, 0), on(3, 6)), 0, true)
	slowest(t, list(on(1, api.MaxSeq)), api.MaxSeq, true)
	// Of any list.
	slowest(t, list(on(9, 8), on(1, -3), off(1, -4)), -3, true)
	slowest(t, list(on(2, math.MaxInt)), math.MaxInt, true)
	slowest(t, list(on(2, math.MaxInt), on(2, math.MinInt)), math.MinInt, true)
	slowest(t, list(on(2, math.MinInt), on(2, math.MaxInt)), math.MinInt, true)
	slowest(t, list(off(2, math.MinInt), on(0, math.MaxInt), on(0, math.MaxInt-1)), math.MaxInt-1, true)
	slowest(t, []api.Client{{}}, 0, true)
	slowest(t, rising(1<<20), 0, true)
	slowest(t, rising(1 << 20)[1:], 6, true)
}

// TestSlowestOfEachShortList: held against all Poses of those who aren't Off, sorted.
func TestSlowestOfEachShortList(t *testing.T) {
	for _, l := range append(short(4), wrong()...) {
		var all []int
		for _, c := range l {
			if !c.Off {
				all = append(all, c.Pos)
			}
		}
		sort.Ints(all)
		if len(all) == 0 {
			slowest(t, l, 0, false)
		} else {
			slowest(t, l, all[0], true)
		}
	}
}

// P7.3

// drawn is clients that may be a journal's, of near or of far numbers.
func drawn(r *rand.Rand) []api.Client {
	idSteps, posSteps := []int{1, 3, 200, 1 << 28}, []int{2, 9, 300, 1 << 20, api.MaxSeq}
	var l []api.Client
	id := 0
	for range r.Intn(api.MaxClients + 1) {
		id += 1 + r.Intn(idSteps[r.Intn(4)])
		l = append(l, api.Client{ID: id, Pos: r.Intn(posSteps[r.Intn(5)] + 1), Off: r.Intn(3) == 0})
	}
	return l
}

func TestGetOfPutIsIt(t *testing.T) {
	r := rand.New(rand.NewSource(71))
	all := right()
	for range 20000 {
		all = append(all, drawn(r))
	}
	for _, l := range all {
		isRight(t, l, true)
		b, why := client.Put(l)
		got, no := client.Get(b)
		if why != api.OK || no != api.OK || !same(got, l) {
			t.Fatalf("P7.3: Get of the Put of %s: %s, %v, %v", tell(l), tell(got), why, no)
		}
	}
}

// keepsUp fails the test, if a Commit takes Slowest back, or makes or unmakes one who is waited for.
func keepsUp(t *testing.T, l []api.Client, id, pos int) {
	t.Helper()
	next, why := client.Commit(l, id, pos)
	if why != api.OK {
		return
	}
	was, had := client.Slowest(l)
	if is, has := client.Slowest(next); has != had || is < was {
		t.Errorf("P7.3: Commit of %s, ID %d, Pos %d: Slowest goes from %d, %v to %d, %v", tell(l), id, pos, was, had, is, has)
	}
}

func TestSlowestNeverFallsByACommit(t *testing.T) {
	r := rand.New(rand.NewSource(72))
	all := append(right(), short(3)...)
	for range 5000 {
		all = append(all, drawn(r))
	}
	for _, l := range all {
		for _, c := range l {
			for _, pos := range []int{0, 1, c.Pos - 1, c.Pos, c.Pos + 1, r.Intn(api.MaxSeq), api.MaxSeq} {
				keepsUp(t, l, c.ID, pos)
			}
		}
	}
}

// TestManyDeeds: one deed behind the other, each held against what it should answer.
func TestManyDeeds(t *testing.T) {
	r := rand.New(rand.NewSource(73))
	all := deeds()
	for range 2000 {
		var l []api.Client
		for range r.Intn(40) {
			id, pos := r.Intn(8), r.Intn(20)-1
			asTold(t, l, id, pos)
			keepsUp(t, l, id, pos)
			if next, why := all[r.Intn(len(all))].do(l, id, pos); why == api.OK {
				l = next
			}
			isRight(t, l, true)
		}
	}
}

// R1

// TestAny: lists and bytes of any kind: calls end, and none panics.
func TestAny(t *testing.T) {
	r := rand.New(rand.NewSource(74))
	long := rising(1 << 20)
	asTold(t, long, 1, 1)
	asTold(t, long, 1<<20, 1)
	isRight(t, long, false)
	for range 20000 {
		var l []api.Client
		for range r.Intn(7) {
			l = append(l, api.Client{ID: int(r.Uint64() >> r.Intn(64)), Pos: int(r.Uint64() >> r.Intn(64)), Off: r.Intn(2) == 0})
		}
		asTold(t, l, int(r.Uint64()>>r.Intn(64)), int(r.Uint64()>>r.Intn(64)))
		client.Find(l, 1)
		client.Slowest(l)
	}
	for range 200000 {
		b := make([]byte, r.Intn(20))
		r.Read(b)
		if len(b) > 0 {
			b[0] %= 6
		}
		sound(t, b)
	}
	for _, c := range []byte{0, 1, 4, 5, 127, 128, 255} {
		refuses(t, "many bytes", bytes.Repeat([]byte{c}, 1<<20))
	}
}

// R2

// roomy is l in memory of its own, with spare room behind it in which other clients lie.
func roomy(l []api.Client) []api.Client {
	m := append(slices.Clone(l), on(99, 3), off(98, 4), on(97, 5))
	return m[:len(l)]
}

// whole is l, and what lies in its spare room.
func whole(l []api.Client) string {
	return fmt.Sprint(len(l), l[:cap(l)])
}

// spoil writes over all of l, its spare room too.
func spoil(l []api.Client) {
	l = l[:cap(l)]
	for i := range l {
		l[i] = off(-5, -5)
	}
}

func TestNothingHandedInIsChanged(t *testing.T) {
	for _, l := range append(right(), wrong()...) {
		a := roomy(l[:min(len(l), 20)])
		was := whole(a)
		client.Right(a)
		client.Put(a)
		client.Find(a, 3)
		client.Slowest(a)
		for _, c := range append(slices.Clone(a), on(0, 0), on(5, 5), on(api.MaxID, 5)) {
			for _, d := range deeds() {
				d.do(a, c.ID, c.Pos+1)
			}
		}
		if whole(a) != was {
			t.Fatalf("R2: %s was changed: %s", was, whole(a))
		}
		b := append(byHand(l), "spare"...)
		told := string(b)
		client.Get(b[:len(b)-5])
		if string(b) != told {
			t.Fatalf("R2: bytes were changed by Get of %s", tell(l))
		}
	}
}

// TestAnswersAreNewMemory: also where nothing had to be changed: a Commit below, a Turn to what it is.
func TestAnswersAreNewMemory(t *testing.T) {
	for _, l := range append(right(), short(3)...) {
		if !legal(l) {
			continue
		}
		for _, c := range append(slices.Clone(l), on(77, 0)) {
			for _, pos := range []int{0, c.Pos, min(c.Pos+1, api.MaxSeq)} {
				for _, d := range deeds() {
					a := roomy(l)
					was := whole(a)
					one, _ := d.do(a, c.ID, pos)
					two, _ := d.do(a, c.ID, pos)
					told := fmt.Sprint(two)
					spoil(one)
					if whole(a) != was || fmt.Sprint(two) != told {
						t.Fatalf("R2: the answer of %s of %s, ID %d, Pos %d, shares memory", d.name, tell(l), c.ID, pos)
					}
					spoil(a)
					if fmt.Sprint(two) != told {
						t.Fatalf("R2: the answer of %s of %s, ID %d, Pos %d, shares memory with what was handed in", d.name, tell(l), c.ID, pos)
					}
				}
			}
		}
		b := byHand(l)
		one, _ := client.Get(b)
		two, _ := client.Get(b)
		spoil(one)
		clear(b)
		if !same(two, l) {
			t.Fatalf("R2: Gets of %s share memory", tell(l))
		}
		first, _ := client.Put(l)
		second, _ := client.Put(l)
		clear(first[:cap(first)])
		if !bytes.Equal(second, byHand(l)) {
			t.Fatalf("R2: Puts of %s share memory", tell(l))
		}
	}
}

// R4, R5

// TestSpareRoomIsNotRead: what lies behind a list's length is none of it.
func TestSpareRoomIsNotRead(t *testing.T) {
	a := list(on(4, 3), off(6, 2), on(8, 1), on(api.MaxID+1, -1), on(1, 0))
	for n := range 4 {
		l := slices.Clone(a[:n])
		isRight(t, a[:n], true)
		for id := -1; id < 10; id++ {
			want, there := client.Find(l, id)
			finds(t, a[:n], id, want, there)
			asTold(t, a[:n], id, 5)
		}
		want, some := client.Slowest(l)
		slowest(t, a[:n], want, some)
	}
	finds(t, a[:1], 6, api.Client{}, false)
	slowest(t, a[:2], 3, true)
	b := append(byHand(a[:3]), 9)
	gets(t, b[:len(b)-1], a[:3])
}

func TestNilAndEmpty(t *testing.T) {
	for _, l := range [][]api.Client{nil, {}, rising(2)[:0]} {
		isRight(t, l, true)
		finds(t, l, 1, api.Client{}, false)
		slowest(t, l, 0, false)
		for id := -1; id < 4; id++ {
			asTold(t, l, id, 0)
			asTold(t, l, id, -1)
		}
		if b, why := client.Put(l); why != api.OK || fmt.Sprint(b) != "[0]" {
			t.Errorf("R4: Put of none: %v, %v", b, why)
		}
	}
}
