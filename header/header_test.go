package header_test

import (
	"bytes"
	"encoding/binary"
	"fmt"
	"hash/crc32"
	"math"
	"math/rand"
	"regexp"
	"slices"
	"sort"
	"strings"
	"testing"

	"hectograph/api"
	"hectograph/header"
)

// flat is a layout that may be.
func flat() api.Layout {
	return api.Layout{Order: 4, Unit: 2, Count: 2}
}

// mark and gone are snapshots that a guest sees, if the name is none of a hold, and doesn't see.
func mark(id int, name string, size int) api.Mark {
	return api.Mark{ID: id, Name: name, Size: size}
}

func gone(id int, name string, size int) api.Mark {
	return api.Mark{ID: id, Name: name, Size: size, Gone: true}
}

// head is a record of those marks that may be, if they may.
func head(l ...api.Mark) api.Head {
	return api.Head{Size: 5, Layout: flat(), Next: 100, Seq: 7, Marks: l}
}

// numbered is a record of l, the IDs 1, 2 and so on instead of its own.
func numbered(l []api.Mark) api.Head {
	l = slices.Clone(l)
	for i := range l {
		l[i].ID = i + 1
	}
	h := head(l...)
	h.Next = max(h.Next, len(l)+1)
	return h
}

// many is a record of so many marks, of names of their own: first those that are Gone, then holds, then those that are seen.
func many(unseen, holds, seen int) api.Head {
	var l []api.Mark
	for i := range unseen {
		l = append(l, gone(0, fmt.Sprint("g", i), i%512))
	}
	for i := range holds {
		l = append(l, mark(0, fmt.Sprint("~h", i), i%512))
	}
	for i := range seen {
		l = append(l, mark(0, fmt.Sprint("s", i), i%512))
	}
	return numbered(l)
}

// far is numbers that are nowhere near a limit, those among them whose lowest bits are a number that may be, or which an addition may carry over the edge.
func far() []int {
	return []int{math.MinInt, math.MinInt + 1, math.MinInt + 2, math.MinInt + api.MaxSize, math.MinInt + api.MaxID, math.MinInt + api.MaxSeq, -api.MaxSeq, -api.MaxID, -api.MaxSize, math.MinInt32, -1 << 32, 1<<41 + 1, 1 << 62, 1<<62 + 3, math.MaxInt - api.MaxSeq, math.MaxInt - 1, math.MaxInt}
}

// sizes, nexts and seqs are numbers at the edges and far off: those that may be, and those that may not.
func sizes() (good, bad []int) {
	return []int{0, 1, 2, 127, 128, 255, 256, 511, 512}, append(far(), -2, -1, 513, 514, 1<<10, 1<<30, 1<<32, 1<<32+1, 1<<40)
}

func nexts() (good, bad []int) {
	return []int{1, 2, 3, 127, 128, 16383, 16384, 1<<30 - 1, 1 << 30}, append(far(), -2, -1, 0, 1<<30+1, 1<<30+2, 1<<31, 1<<32, 1<<32+1, 1<<40)
}

func seqs() (good, bad []int) {
	return []int{0, 1, 2, 127, 128, 16383, 16384, 1<<30 + 1, 1 << 32, 1<<40 - 1, 1 << 40}, append(far(), -2, -1, 1<<40+1, 1<<40+2, 1<<41)
}

// layouts is all layouts near the edges, and some far off.
func layouts() []api.Layout {
	var l []api.Layout
	for order := -1; order <= 9; order++ {
		for unit := -1; unit <= 9; unit++ {
			for count := -1; count <= 7; count++ {
				l = append(l, api.Layout{Order: order, Unit: unit, Count: count})
			}
		}
	}
	for _, n := range append(far(), 1<<32+3, 1<<8+3, 1<<32|2, 1<<8|2, 1<<32|1, 1<<8|1) {
		l = append(l, api.Layout{Order: n, Unit: 2, Count: 1}, api.Layout{Order: 3, Unit: n, Count: 1}, api.Layout{Order: 3, Unit: 2, Count: n}, api.Layout{Order: n, Unit: n, Count: 1}, api.Layout{Order: n, Unit: n, Count: n})
	}
	return l
}

// shaped is what Shape should tell: the pairs of Order and Unit that may be, written out.
func shaped(l api.Layout) bool {
	for _, p := range [][2]int{{3, 2}, {3, 3}, {4, 2}, {4, 3}, {4, 4}, {5, 2}, {5, 3}, {5, 4}, {5, 5}, {6, 2}, {6, 3}, {6, 4}, {6, 5}, {6, 6}} {
		if p == [2]int{l.Order, l.Unit} {
			return l.Count == 1 || l.Count == 2 || l.Count == 3 || l.Count == 4
		}
	}
	return false
}

// right is records that may be, the edges among them.
func right() []api.Head {
	l := []api.Head{
		head(), {Layout: flat(), Next: 1}, {Layout: flat(), Next: 1, Marks: []api.Mark{}},
		{Size: 512, Layout: api.Layout{Order: 6, Unit: 6, Count: 4}, Next: 1 << 30, Seq: 1 << 40},
		{Size: 512, Layout: api.Layout{Order: 6, Unit: 6, Count: 4}, Next: 1 << 30, Seq: 1 << 40, Marks: []api.Mark{gone(1, "0", 0), mark(1<<30-1, "zzzzzzzzzzzz", 512)}},
		{Layout: api.Layout{Order: 3, Unit: 2, Count: 1}, Next: 2, Marks: []api.Mark{mark(1, "-", 0)}},
		head(mark(99, "a", 1)), head(mark(1, "~a", 1)), head(gone(1, "a", 1)), head(mark(98, "a", 511), mark(99, "b", 512)), head(mark(1, "~"+strings.Repeat("9", 12), 1)),
		head(mark(1, "a", 0), mark(3, "b", 1), mark(9, "c", 2)), head(gone(1, "a", 3), gone(2, "a", 4), mark(3, "a", 5)), head(mark(1, "a", 3), gone(2, "a", 4)), head(mark(1, "a", 3), mark(2, "~a", 4), gone(3, "a", 5)),
		many(8, 1, 8), many(9, 0, 8), many(17, 0, 0), many(16, 1, 0), many(0, 1, 8), many(0, 0, 8), many(9, 1, 7),
	}
	for _, layout := range layouts() {
		if shaped(layout) {
			l = append(l, api.Head{Size: 3, Layout: layout, Next: 4, Seq: 5, Marks: []api.Mark{mark(2, "x-1", 6)}})
		}
	}
	size, _ := sizes()
	next, _ := nexts()
	seq, _ := seqs()
	for i := range 11 {
		h := api.Head{Size: size[i%len(size)], Layout: flat(), Next: next[i%len(next)], Seq: seq[i%len(seq)]}
		l = append(l, h)
		if h.Next > 1 {
			h.Marks = []api.Mark{{ID: h.Next - 1, Name: "ab", Size: h.Size, Gone: i%2 == 0}}
			l = append(l, h)
		}
	}
	return l
}

// wrong is records that may not be: each number at its edge and far off, and marks that may not be, alone or beside one another.
func wrong() []api.Head {
	l := []api.Head{
		{}, {Layout: flat()}, {Next: 1}, {Size: 1, Next: 2, Seq: 3}, head(api.Mark{}),
		head(mark(1, "", 0)), head(mark(1, "~", 0)), head(mark(1, "~~a", 0)), head(mark(1, "~~", 0)), head(mark(1, "a~", 0)), head(mark(1, "A", 0)), head(mark(1, "a b", 0)), head(mark(1, "a\x00", 0)), head(mark(1, "\xc3\xa4", 0)),
		head(mark(1, strings.Repeat("a", 13), 0)), head(gone(1, strings.Repeat("a", 13), 0)), head(mark(1, "~"+strings.Repeat("a", 13), 0)), head(mark(1, strings.Repeat("a", 1<<8+1), 0)), head(mark(1, strings.Repeat("a", 1<<16), 0)),
		head(mark(2, "a", 0), mark(1, "b", 0)), head(mark(2, "a", 0), mark(2, "b", 0)), head(gone(2, "a", 0), gone(2, "a", 0)), head(mark(1, "a", 0), mark(3, "b", 0), mark(2, "c", 0)), head(mark(1, "a", 0), mark(2, "b", 0), mark(1, "c", 0)),
		head(mark(1, "a", 0), mark(2, "a", 0)), head(mark(1, "a", 0), gone(2, "a", 0), mark(3, "a", 0)), head(mark(1, "a", 0), mark(2, "b", 0), mark(3, "c", 0), mark(4, "a", 1)),
		head(mark(1, "~a", 0), mark(2, "~b", 0)), head(mark(1, "~a", 0), mark(2, "~a", 0)), head(gone(1, "~a", 0)), head(mark(1, "~a", 0), gone(2, "~b", 0)), head(gone(1, "~a", 0), mark(2, "~b", 0)), head(mark(1, "~a", 0), mark(2, "b", 0), mark(3, "~c", 0)),
		many(9, 1, 8), many(10, 0, 8), many(18, 0, 0), many(17, 1, 0), many(0, 0, 9), many(0, 1, 9), many(8, 0, 9), many(0, 2, 0), many(3, 2, 3), many(0, 0, 17), many(300, 0, 0), many(256, 0, 0), many(1<<16, 1, 8),
	}
	for _, layout := range layouts() {
		if !shaped(layout) {
			h := head(mark(1, "a", 2))
			h.Layout = layout
			l = append(l, h)
		}
	}
	_, size := sizes()
	for _, n := range size {
		l = append(l, api.Head{Size: n, Layout: flat(), Next: 1}, head(mark(1, "a", n)), head(gone(1, "a", n)), head(mark(1, "~a", n)), head(mark(1, "a", 0), mark(2, "b", n)), head(mark(1, "a", n), mark(2, "b", 0)))
	}
	_, next := nexts()
	for _, n := range next {
		l = append(l, api.Head{Layout: flat(), Next: n}, head(mark(n, "a", 0)), head(mark(1, "a", 0), mark(n, "b", 0)), head(mark(n, "a", 0), mark(2, "b", 0)), api.Head{Layout: flat(), Next: n, Marks: []api.Mark{mark(1, "a", 0)}})
	}
	_, seq := seqs()
	for _, n := range seq {
		l = append(l, api.Head{Layout: flat(), Next: 1, Seq: n})
	}
	for _, n := range []int{100, 101, 127, 128, 1<<30 - 1, 1 << 30} {
		l = append(l, head(mark(n, "a", 0)), head(gone(n, "a", 0)), head(mark(1, "a", 0), mark(n, "~b", 0)))
	}
	return l
}

// sealed is b and its sum, as Go's own library has it.
func sealed(b []byte) []byte {
	return binary.LittleEndian.AppendUint32(bytes.Clone(b), crc32.Checksum(b, crc32.MakeTable(crc32.Castagnoli)))
}

// parts is h in bytes, unsealed, a part for each number and for each name, the numbers as Go's own library lays them.
func parts(h api.Head) [][]byte {
	var l [][]byte
	for _, n := range []int{h.Size, h.Layout.Order, h.Layout.Unit, h.Layout.Count, h.Next, h.Seq, len(h.Marks)} {
		l = append(l, binary.AppendUvarint(nil, uint64(n)))
	}
	for _, m := range h.Marks {
		l = append(l, binary.AppendUvarint(nil, uint64(m.ID)), binary.AppendUvarint(nil, uint64(m.Size)), []byte{0}, binary.AppendUvarint(nil, uint64(len(m.Name))), []byte(m.Name))
		if m.Gone {
			l[len(l)-3] = []byte{1}
		}
	}
	return l
}

// inside is h in bytes ahead of its sum, byHand with it.
func inside(h api.Head) []byte {
	return bytes.Join(parts(h), nil)
}

func byHand(h api.Head) []byte {
	return sealed(inside(h))
}

// with is inside of h, but that the part at that place is b.
func with(h api.Head, place int, b []byte) []byte {
	l := parts(h)
	l[place] = b
	return bytes.Join(l, nil)
}

// places is how many parts h has, and what sort each is of: 's' for a name's bytes, 'c' for how many marks or bytes, 'g' for Gone, 'n' for other numbers.
func places(h api.Head) string {
	return "nnnnnnc" + strings.Repeat("nngcs", len(h.Marks))
}

// same is whether a and b are alike in all.
func same(a, b api.Head) bool {
	return fmt.Sprintf("%q", all(a)) == fmt.Sprintf("%q", all(b))
}

// all is all fields of h.
func all(h api.Head) []string {
	l := []string{fmt.Sprint(h.Size, h.Layout, h.Next, h.Seq)}
	for _, m := range h.Marks {
		l = append(l, fmt.Sprint(m.ID, m.Size, m.Gone), m.Name)
	}
	return l
}

// tell is h in few words, however much it is.
func tell(h api.Head) string {
	return fmt.Sprintf("a record (%d marks) %.300q", len(h.Marks), fmt.Sprint(h.Size, h.Layout, h.Next, h.Seq, h.Marks[:min(len(h.Marks), 20)]))
}

var named = regexp.MustCompile(`^~?[a-z0-9-]{1,12}$`)

// legal is what Right should tell, put otherwise than by what is ahead.
func legal(h api.Head) bool {
	if h.Size < 0 || h.Size > 512 || !shaped(h.Layout) || h.Next < 1 || h.Next > 1<<30 || h.Seq < 0 || h.Seq > 1<<40 || len(h.Marks) > 17 {
		return false
	}
	ids, names := map[int]bool{}, map[string]bool{}
	holds := 0
	for _, m := range h.Marks {
		if m.ID < 1 || m.ID >= h.Next || ids[m.ID] || m.Size < 0 || m.Size > 512 || !named.MatchString(m.Name) {
			return false
		}
		ids[m.ID] = true
		switch {
		case m.Name[0] == '~':
			holds++
			if m.Gone {
				return false
			}
		case !m.Gone:
			if names[m.Name] {
				return false
			}
			names[m.Name] = true
		}
	}
	return holds <= 1 && len(names) <= 8 && sort.SliceIsSorted(h.Marks, func(a, b int) bool { return h.Marks[a].ID < h.Marks[b].ID })
}

// isRight fails the test, unless Right tells want, and Put goes by it.
func isRight(t *testing.T, h api.Head, want bool) {
	t.Helper()
	if got := header.Right(h); got != want {
		t.Errorf("P8.1: Right of %s: %v", tell(h), got)
	}
	b, why := header.Put(h)
	if want && (why != api.OK || !bytes.Equal(b, byHand(h))) || !want && why != api.ErrArg {
		t.Errorf("P8.2: Put of %s: %v, %v", tell(h), b, why)
	}
	if !want && len(b) > 0 {
		t.Errorf("R3: Put of %s answers %v beside a refusal", tell(h), b)
	}
}

// refuses fails the test, unless Get refuses b by that, and answers nothing beside it.
func refuses(t *testing.T, what string, b []byte, no api.Errno) {
	t.Helper()
	h, why := header.Get(b)
	if why != no {
		t.Errorf("P8.2: Get of %s, %d bytes %v: %v, not %v", what, len(b), b[:min(len(b), 80)], why, no)
	}
	if !same(h, api.Head{}) {
		t.Errorf("R3: Get of %s, %d bytes %v, answers %s beside a refusal", what, len(b), b[:min(len(b), 80)], tell(h))
	}
}

// isNone fails the test, unless Get tells that b, sealed, is no record.
func isNone(t *testing.T, what string, b []byte) {
	t.Helper()
	refuses(t, what, sealed(b), api.ErrForm)
}

// gets fails the test, unless Get answers want.
func gets(t *testing.T, b []byte, want api.Head) {
	t.Helper()
	if h, why := header.Get(b); why != api.OK || !same(h, want) {
		t.Errorf("P8.2: Get of %v: %s, %v, not %s", b, tell(h), why, tell(want))
	}
}

// read is the record whose bytes, as Go's own library lays and sums them, are just b, or why there is none.
func read(b []byte) (api.Head, api.Errno) {
	if len(b) < 4 || !bytes.Equal(sealed(b[:len(b)-4]), b) {
		return api.Head{}, api.ErrSum
	}
	rest, sound := b[:len(b)-4], true
	number := func() int {
		n, width := binary.Uvarint(rest)
		if width < 1 || width > 1 && rest[width-1] == 0 || n > math.MaxInt {
			sound = false
			return 0
		}
		rest = rest[width:]
		return int(n)
	}
	h := api.Head{Size: number(), Layout: api.Layout{Order: number(), Unit: number(), Count: number()}, Next: number(), Seq: number()}
	for range min(number(), 100) {
		m := api.Mark{ID: number(), Size: number()}
		last := number()
		m.Gone = last == 1
		width := number()
		if last > 1 || width > len(rest) {
			return api.Head{}, api.ErrForm
		}
		m.Name, rest = string(rest[:width]), rest[width:]
		h.Marks = append(h.Marks, m)
	}
	if !sound || len(rest) > 0 || !legal(h) {
		return api.Head{}, api.ErrForm
	}
	return h, api.OK
}

// sound fails the test, unless Get reads b as read does.
func sound(t *testing.T, b []byte) {
	t.Helper()
	h, why := header.Get(b)
	if want, no := read(b); why != no || !same(h, want) {
		t.Errorf("P8.2: Get of %d bytes %v: %s, %v, not %s, %v", len(b), b[:min(len(b), 80)], tell(h), why, tell(want), no)
	}
}

// P8.1: Shape

func TestShape(t *testing.T) {
	for _, l := range layouts() {
		if got := header.Shape(l); got != shaped(l) {
			t.Errorf("P8.1: Shape of %v: %v", l, got)
		}
	}
	for l, want := range map[api.Layout]bool{
		{}: false, {Order: 2, Unit: 2, Count: 1}: false, {Order: 3, Unit: 2, Count: 1}: true, {Order: 6, Unit: 2, Count: 4}: true, {Order: 7, Unit: 2, Count: 1}: false,
		{Order: 5, Unit: 1, Count: 1}: false, {Order: 5, Unit: 2, Count: 1}: true, {Order: 5, Unit: 5, Count: 1}: true, {Order: 5, Unit: 6, Count: 1}: false, {Order: 3, Unit: 4, Count: 1}: false,
		{Order: 3, Unit: 3, Count: 0}: false, {Order: 3, Unit: 3, Count: 1}: true, {Order: 3, Unit: 3, Count: 4}: true, {Order: 3, Unit: 3, Count: 5}: false, {Order: 6, Unit: 7, Count: 4}: false,
	} {
		if got := header.Shape(l); got != want {
			t.Errorf("P8.1: Shape of %v: %v", l, got)
		}
	}
}

// P8.1: Right

func TestRight(t *testing.T) {
	for _, h := range right() {
		isRight(t, h, true)
	}
	for _, h := range wrong() {
		isRight(t, h, false)
	}
}

// TestRightOfEachNumber: each number beside each other one, with marks and without.
func TestRightOfEachNumber(t *testing.T) {
	size, noSize := sizes()
	next, noNext := nexts()
	seq, noSeq := seqs()
	for _, a := range append(size, noSize...) {
		for _, b := range append(next, noNext...) {
			for _, c := range append(seq, noSeq...) {
				h := api.Head{Size: a, Layout: flat(), Next: b, Seq: c}
				want := slices.Contains(size, a) && slices.Contains(next, b) && slices.Contains(seq, c)
				if got := header.Right(h); got != want {
					t.Fatalf("P8.1: Right of %s: %v", tell(h), got)
				}
				h.Marks = []api.Mark{mark(1, "a", 0)}
				if got := header.Right(h); got != (want && b > 1) {
					t.Fatalf("P8.1: Right of %s: %v", tell(h), got)
				}
			}
		}
	}
}

func TestRightOfEachLayout(t *testing.T) {
	for _, l := range layouts() {
		for _, h := range []api.Head{{Layout: l, Next: 1}, {Size: 512, Layout: l, Next: 9, Seq: 3, Marks: []api.Mark{mark(4, "a", 1), mark(8, "~b", 512)}}} {
			isRight(t, h, shaped(l))
		}
	}
}

// TestRightOfAMark: each ID, Size and Next of a mark, alone and at each place among others.
func TestRightOfAMark(t *testing.T) {
	good, bad := sizes()
	ids, noIDs := nexts()
	for _, size := range append(good, bad...) {
		for _, id := range append(ids, noIDs...) {
			for _, next := range []int{1, 2, 3, 128, 129, 16384, 1<<30 - 1, 1 << 30, 1<<30 + 1} {
				m := api.Mark{ID: id, Name: "m", Size: size, Gone: (id+size)%2 == 0}
				for _, l := range [][]api.Mark{{m}, {m, mark(100, "n", 1)}, {mark(1, "n", 1), m}, {mark(1, "n", 1), m, mark(20000, "o", 1)}} {
					h := api.Head{Layout: flat(), Next: next, Marks: l}
					if got := header.Right(h); got != legal(h) {
						t.Fatalf("P8.1: Right of %s: %v", tell(h), got)
					}
				}
			}
		}
	}
}

// TestRightOfEachOrder: all rows of four IDs of few, at each Next.
func TestRightOfEachOrder(t *testing.T) {
	for code := range 6 * 6 * 6 * 6 {
		var l []api.Mark
		for n := code; n > 0; n /= 6 {
			l = append(l, mark(n%6, string(rune('a'+len(l))), 2))
		}
		for next := range 8 {
			h := api.Head{Layout: flat(), Next: next, Marks: l}
			isRight(t, h, legal(h))
		}
	}
}

// TestRightOfHowMany: so many that are Gone, holds and seen ones beside one another, in three orders.
func TestRightOfHowMany(t *testing.T) {
	for unseen := range 20 {
		for holds := range 4 {
			for seen := range 20 {
				want := seen <= 8 && holds <= 1 && unseen+holds+seen <= 17
				h := many(unseen, holds, seen)
				isRight(t, h, want)
				back := slices.Clone(h.Marks)
				slices.Reverse(back)
				isRight(t, numbered(back), want)
				rand.New(rand.NewSource(int64(unseen+seen))).Shuffle(len(back), func(a, b int) { back[a], back[b] = back[b], back[a] })
				isRight(t, numbered(back), want)
			}
		}
	}
	isRight(t, many(1<<17, 0, 0), false)
	isRight(t, many(0, 0, 1<<17), false)
}

// TestRightOfEachByte: each byte at each place of names of each length, of a seen one's, a Gone one's and a hold's.
func TestRightOfEachByte(t *testing.T) {
	for n := range 16 {
		for at := range n {
			for c := range 256 {
				name := []byte("a0-z9b-c1d2e3f4g")[:n]
				name[at] = byte(c)
				for _, m := range []api.Mark{mark(1, string(name), 0), gone(1, string(name), 0), mark(1, "~"+string(name), 0), gone(1, "~"+string(name), 0)} {
					h := head(m)
					if got := header.Right(h); got != legal(h) {
						t.Fatalf("P8.1: Right of %s: %v", tell(h), got)
					}
				}
			}
		}
	}
}

func TestRightOfNames(t *testing.T) {
	twelve, more := strings.Repeat("a", 12), strings.Repeat("a", 13)
	for name, want := range map[string]bool{
		"": false, "a": true, "-": true, "0": true, twelve: true, more: false, "~": false, "~a": true, "~-": true, "~" + twelve: true, "~" + more: false, "~~": false, "~~a": false, "~a~": false, "a~": false, "a~b": false,
		"a\n": false, "\na": false, "~a\n": false, " ": false, "~ ": false, "A": false, "~A": false, "a_b": false, "\x00": false, "\xff": false, "\u00e4": false, "a\u0301": false, strings.Repeat("~", 13): false, twelve + "~": false,
	} {
		isRight(t, head(mark(1, name, 3)), want)
		isRight(t, head(gone(1, name, 3)), want && name[0] != '~')
		isRight(t, head(mark(1, "b", 3), mark(2, name, 3)), want)
		isRight(t, head(mark(1, name, 3), gone(2, "b", 3)), want)
	}
}

// kinds is marks of few sorts, those that may not be among them.
func kinds() []api.Mark {
	return []api.Mark{mark(0, "a", 1), mark(0, "b", 2), gone(0, "a", 3), gone(0, "b", 4), mark(0, "~a", 5), mark(0, "~b", 6), gone(0, "~a", 7), mark(0, "", 8), mark(0, "~", 9)}
}

// rows is all rows of up to most of kinds.
func rows(most int) []api.Head {
	all := []api.Head{head()}
	last := [][]api.Mark{nil}
	for range most {
		var next [][]api.Mark
		for _, l := range last {
			for _, m := range kinds() {
				next = append(next, append(slices.Clone(l), m))
				all = append(all, numbered(next[len(next)-1]))
			}
		}
		last = next
	}
	return all
}

func TestRightOfEachRow(t *testing.T) {
	for _, h := range rows(4) {
		if got := header.Right(h); got != legal(h) {
			t.Fatalf("P8.1: Right of %s: %v", tell(h), got)
		}
	}
}

// P8.1: Seen, Find, Newest

// looks fails the test, unless Seen, Find and Newest answer of h as plain search in it does.
func looks(t *testing.T, h api.Head) {
	t.Helper()
	var want []api.Mark
	first := map[string]api.Mark{}
	ids := []int{}
	for _, m := range h.Marks {
		ids = append(ids, m.ID)
		if m.Gone || len(m.Name) > 0 && m.Name[:1] == "~" {
			continue
		}
		want = append(want, m)
		if _, there := first[m.Name]; !there {
			first[m.Name] = m
		}
	}
	if got := header.Seen(h); !slices.Equal(got, want) {
		t.Errorf("P8.1: Seen of %s: %v", tell(h), got)
	}
	for _, m := range append(slices.Clone(h.Marks), mark(0, "", 0), mark(0, "~", 0), mark(0, "a", 0), mark(0, "none", 0)) {
		for _, name := range []string{m.Name, "~" + m.Name, strings.TrimPrefix(m.Name, "~"), m.Name + "a", m.Name + "\x00", strings.ToUpper(m.Name)} {
			want, there := first[name]
			if got, ok := header.Find(h, name); got != want || ok != there {
				t.Errorf("P8.1: Find of %q in %s: %v, %v, not %v, %v", name, tell(h), got, ok, want, there)
			}
		}
	}
	sort.Ints(ids)
	newest := 0
	if len(ids) > 0 {
		newest = ids[len(ids)-1]
	}
	if got := header.Newest(h); got != newest {
		t.Errorf("P8.1: Newest of %s: %d, not %d", tell(h), got, newest)
	}
}

func TestLooks(t *testing.T) {
	for _, h := range slices.Concat(right(), wrong(), rows(3)) {
		if len(h.Marks) < 400 {
			looks(t, h)
		}
	}
	r := rand.New(rand.NewSource(81))
	for range 3000 {
		looks(t, wild(r))
	}
}

func TestSeen(t *testing.T) {
	for _, c := range []struct {
		l    []api.Mark
		want string
	}{
		{nil, "[]"},
		{[]api.Mark{gone(1, "a", 0)}, "[]"},
		{[]api.Mark{mark(1, "~a", 0)}, "[]"},
		{[]api.Mark{mark(1, "~", 0)}, "[]"},
		{[]api.Mark{gone(1, "~a", 0)}, "[]"},
		{[]api.Mark{mark(1, "a~", 2)}, "[{1 a~ 2 false}]"},
		{[]api.Mark{mark(9, "b", 2), gone(3, "c", 4), mark(-5, "a", 513), mark(6, "~c", 7), mark(9, "b", 2), mark(0, "", 0)}, "[{9 b 2 false} {-5 a 513 false} {9 b 2 false} {0  0 false}]"},
	} {
		if got := fmt.Sprint(header.Seen(api.Head{Marks: c.l})); got != c.want {
			t.Errorf("P8.1: Seen of %v: %s, not %s", c.l, got, c.want)
		}
	}
	if got := header.Seen(many(1<<16, 1<<16, 1<<16)); len(got) != 1<<16 || got[0].Name != "s0" || got[1<<16-1].Name != "s65535" {
		t.Errorf("P8.1: Seen of many: %d", len(got))
	}
}

func TestFind(t *testing.T) {
	h := api.Head{Marks: []api.Mark{gone(1, "a", 1), mark(5, "a", 2), mark(3, "a", 3), mark(4, "~b", 4), gone(6, "c", 5), mark(7, "", 6), gone(8, "a", 7)}}
	for _, c := range []struct {
		name  string
		want  api.Mark
		there bool
	}{
		{"a", mark(5, "a", 2), true},
		{"", mark(7, "", 6), true},
		{"~b", api.Mark{}, false},
		{"b", api.Mark{}, false},
		{"c", api.Mark{}, false},
		{"~a", api.Mark{}, false},
		{"~", api.Mark{}, false},
		{"A", api.Mark{}, false},
		{"aa", api.Mark{}, false},
		{strings.Repeat("a", 1<<20), api.Mark{}, false},
	} {
		if m, ok := header.Find(h, c.name); m != c.want || ok != c.there {
			t.Errorf("P8.1: Find of %.20q: %v, %v", c.name, m, ok)
		}
		if m, ok := header.Find(api.Head{}, c.name); m != (api.Mark{}) || ok {
			t.Errorf("P8.1: Find of %.20q in nothing: %v, %v", c.name, m, ok)
		}
	}
	if m, ok := header.Find(many(1<<10, 1<<10, 1<<16), "s65535"); !ok || m.ID != 1<<11+1<<16 {
		t.Errorf("P8.1: Find in many: %v, %v", m, ok)
	}
}

func TestNewest(t *testing.T) {
	for _, c := range []struct {
		l    []api.Mark
		want int
	}{
		{nil, 0}, {[]api.Mark{}, 0}, {[]api.Mark{mark(1, "a", 0)}, 1}, {[]api.Mark{gone(4, "a", 0)}, 4}, {[]api.Mark{mark(4, "~a", 0)}, 4}, {[]api.Mark{gone(4, "~a", 0), mark(3, "b", 0)}, 4},
		{[]api.Mark{mark(1, "a", 0), gone(2, "b", 0), mark(9, "~c", 0)}, 9}, {[]api.Mark{mark(9, "a", 0), mark(2, "b", 0), mark(8, "c", 0)}, 9}, {[]api.Mark{mark(1, "a", 0), gone(20, "b", 0), mark(9, "c", 0)}, 20},
		{[]api.Mark{{}}, 0}, {[]api.Mark{{ID: -5}}, -5}, {[]api.Mark{{ID: -5}, {ID: -3}, {ID: -4}}, -3}, {[]api.Mark{{ID: math.MinInt}}, math.MinInt}, {[]api.Mark{{ID: math.MinInt}, {ID: math.MaxInt}}, math.MaxInt}, {[]api.Mark{{ID: math.MaxInt}, {ID: math.MinInt}}, math.MaxInt},
	} {
		if got := header.Newest(api.Head{Next: 77, Seq: 88, Marks: c.l}); got != c.want {
			t.Errorf("P8.1: Newest of %v: %d, not %d", c.l, got, c.want)
		}
	}
	if got := header.Newest(many(1<<20, 0, 0)); got != 1<<20 {
		t.Errorf("P8.1: Newest of many: %d", got)
	}
}

// P8.1: Same

// turned is h with one thing changed, each thing once.
func turned(h api.Head) []api.Head {
	var l []api.Head
	for i := range 6 {
		x := h
		x.Marks = slices.Clone(h.Marks)
		*[]*int{&x.Size, &x.Layout.Order, &x.Layout.Unit, &x.Layout.Count, &x.Next, &x.Seq}[i] ^= 1 << (7 * i)
		l = append(l, x)
	}
	other := func(marks []api.Mark) {
		x := h
		x.Marks = marks
		l = append(l, x)
	}
	for i := range h.Marks {
		for k := range 5 {
			m := slices.Clone(h.Marks)
			switch k {
			case 0:
				m[i].ID ^= 1 << 40
			case 1:
				m[i].Size ^= 1
			case 2:
				m[i].Gone = !m[i].Gone
			case 3:
				m[i].Name += "\x00"
			case 4:
				m[i].Name = "~" + m[i].Name
			}
			other(m)
		}
		other(h.Marks[:i])
		other(slices.Delete(slices.Clone(h.Marks), i, i+1))
	}
	other(append(slices.Clone(h.Marks), api.Mark{}))
	other(append([]api.Mark{mark(77, "new", 0)}, h.Marks...))
	return l
}

func TestSame(t *testing.T) {
	for _, h := range slices.Concat(right(), wrong(), rows(2)) {
		if len(h.Marks) > 20 {
			continue
		}
		twin := h
		twin.Marks = slices.Clone(h.Marks)
		if !header.Same(h, h) || !header.Same(h, twin) || !header.Same(twin, h) {
			t.Errorf("P8.1: Same of %s and one just like it", tell(h))
		}
		for _, x := range turned(h) {
			if header.Same(h, x) || header.Same(x, h) {
				t.Errorf("P8.1: Same of %s and %s", tell(h), tell(x))
			}
		}
	}
	a := head(mark(1, "a", 1), mark(2, "b", 2))
	if b := head(mark(2, "b", 2), mark(1, "a", 1)); header.Same(a, b) {
		t.Error("P8.1: Same of two whose Marks are in another order")
	}
	if !header.Same(api.Head{}, api.Head{Marks: []api.Mark{}}) || !header.Same(api.Head{Marks: []api.Mark{}}, api.Head{}) || !header.Same(head(), head(a.Marks[:0]...)) {
		t.Error("R4: Same of nil Marks and empty ones")
	}
}

// P8.2: Put

// TestPutByHand: the bytes ahead of the sum written out, so that no number is reckoned here.
func TestPutByHand(t *testing.T) {
	for _, c := range []struct {
		h    api.Head
		want string
	}{
		{api.Head{Layout: flat(), Next: 1}, "\x00\x04\x02\x02\x01\x00\x00"},
		{api.Head{Size: 512, Layout: api.Layout{Order: 6, Unit: 5, Count: 4}, Next: 1 << 30, Seq: 1 << 40}, "\x80\x04\x06\x05\x04\x80\x80\x80\x80\x04\x80\x80\x80\x80\x80\x20\x00"},
		{api.Head{Size: 300, Layout: api.Layout{Order: 5, Unit: 3, Count: 1}, Next: 9, Seq: 2, Marks: []api.Mark{gone(5, "ab", 1)}}, "\xac\x02\x05\x03\x01\x09\x02\x01\x05\x01\x01\x02ab"},
		{api.Head{Size: 1, Layout: api.Layout{Order: 3, Unit: 2, Count: 3}, Next: 301, Seq: 128, Marks: []api.Mark{mark(7, "a", 127), mark(128, "~z-9", 128), gone(300, "a", 512)}}, "\x01\x03\x02\x03\xad\x02\x80\x01\x03\x07\x7f\x00\x01a\x80\x01\x80\x01\x00\x04~z-9\xac\x02\x80\x04\x01\x01a"},
		{head(mark(1, "~aaaaaaaaaaaa", 0)), "\x05\x04\x02\x02\x64\x07\x01\x01\x00\x00\x0d~aaaaaaaaaaaa"},
	} {
		want := sealed([]byte(c.want))
		if got, why := header.Put(c.h); why != api.OK || !bytes.Equal(got, want) {
			t.Errorf("P8.2: Put of %s: %q, %v, not %q", tell(c.h), got, why, want)
		}
		gets(t, want, c.h)
	}
}

// P8.2: Get

func TestGet(t *testing.T) {
	for _, h := range right() {
		gets(t, byHand(h), h)
	}
}

func TestGetOfNothing(t *testing.T) {
	refuses(t, "nil", nil, api.ErrSum)
	refuses(t, "no byte", []byte{}, api.ErrSum)
	refuses(t, "no byte, with a Put as its room", byHand(head())[:0], api.ErrSum)
	for n := 1; n < 4; n++ {
		refuses(t, "less than a sum", make([]byte, n), api.ErrSum)
	}
	// Four noughts are the sum of no byte.
	refuses(t, "no byte, sealed", make([]byte, 4), api.ErrForm)
	isNone(t, "no byte, sealed", nil)
}

func TestGetOfEachLengthCutOff(t *testing.T) {
	for _, h := range right() {
		b, in := byHand(h), inside(h)
		for n := range b {
			sound(t, b[:n])
			sound(t, b[n+1:])
			sound(t, append(bytes.Clone(b[:n]), b[n+1:]...))
		}
		for n := range in {
			isNone(t, "a record cut off, sealed", in[:n])
			sound(t, sealed(in[n+1:]))
			sound(t, sealed(append(bytes.Clone(in[:n]), in[n+1:]...)))
		}
	}
}

func TestGetOfAByteMore(t *testing.T) {
	for _, h := range right() {
		b, in := byHand(h), inside(h)
		for c := range 256 {
			sound(t, append(bytes.Clone(b), byte(c)))
			sound(t, append([]byte{byte(c)}, b...))
			isNone(t, "a byte behind the last mark", append(bytes.Clone(in), byte(c)))
			sound(t, sealed(append([]byte{byte(c)}, in...)))
		}
		isNone(t, "two records", append(bytes.Clone(in), in...))
		isNone(t, "a sealed record, sealed", b)
		isNone(t, "a mark more than told", append(bytes.Clone(in), "\x63\x00\x00\x01q"...))
		isNone(t, "many bytes behind it", append(bytes.Clone(in), make([]byte, 5000)...))
	}
}

// TestGetOfTurnedBytes: each byte of a Put as each other one (of long ones as some): its sum tells; and sealed anew: refused, or the record that lies there now.
func TestGetOfTurnedBytes(t *testing.T) {
	for _, h := range right() {
		b, in := byHand(h), inside(h)
		for i := range b {
			for c := 1; c < 256; c += 1 + len(b)/30 {
				odd := bytes.Clone(b)
				odd[i] ^= byte(c)
				refuses(t, "a turned byte", odd, api.ErrSum)
			}
		}
		for i := range in {
			for c := range 256 {
				if len(in) > 60 && c > 8 && c%16 != i%16 {
					continue
				}
				odd := bytes.Clone(in)
				odd[i] = byte(c)
				sound(t, sealed(odd))
			}
		}
	}
}

// TestGetOfAnyGone: Gone is 0 or 1, and nothing else, at each place.
func TestGetOfAnyGone(t *testing.T) {
	for _, h := range right() {
		for i := range h.Marks {
			for n := range 300 {
				b := with(h, 7+5*i+2, binary.AppendUvarint(nil, uint64(n)))
				if n > 1 {
					isNone(t, "a Gone of more than 1", b)
					continue
				}
				other := h
				other.Marks = slices.Clone(h.Marks)
				other.Marks[i].Gone = n == 1
				if legal(other) {
					gets(t, sealed(b), other)
				} else {
					isNone(t, "a Gone that may not be", b)
				}
			}
			for _, n := range []uint64{1 << 32, 1<<32 + 1, 1<<62 + 1, 1<<63 + 1, math.MaxUint64} {
				isNone(t, "a Gone that is far off", with(h, 7+5*i+2, binary.AppendUvarint(nil, n)))
			}
		}
	}
}

// spelt is other rows that n might be read from, if longer Vars were read: with noughts behind them, one to the ninth byte, and beyond it.
func spelt(b []byte) [][]byte {
	var l [][]byte
	for more := 1; more <= 10; more++ {
		long := bytes.Clone(b)
		for range more {
			long[len(long)-1] |= 128
			long = append(long, 0)
		}
		l = append(l, long)
	}
	return l
}

func TestGetOfLongerVars(t *testing.T) {
	for _, h := range right() {
		for i, sort := range places(h) {
			if sort == 's' {
				continue
			}
			for _, b := range spelt(parts(h)[i]) {
				isNone(t, "a record with a longer Var", with(h, i, b))
			}
			for n := range 12 {
				isNone(t, "a record that ends in a Var", append(bytes.Join(parts(h)[:i], nil), bytes.Repeat([]byte{129}, n)...))
			}
		}
	}
}

// TestGetOfNumbersBeyond: each number of a record beyond its limit, by one and by far, or one whose lowest bits are those of the number that belongs there.
func TestGetOfNumbersBeyond(t *testing.T) {
	for _, h := range right() {
		for i, sort := range places(h) {
			if sort == 's' {
				continue
			}
			n, _ := binary.Uvarint(parts(h)[i])
			for _, high := range []uint64{1<<40 + 1, 1 << 41, 1 << 62, math.MaxInt, math.MaxInt + 1, math.MaxUint64 - 1, math.MaxUint64, 1<<41 | n, 1<<62 | n, 1<<63 | n} {
				isNone(t, "a number beyond its limit", with(h, i, binary.AppendUvarint(nil, high)))
			}
			for _, high := range []uint64{0, 1, 2, 3, 4, 5, 6, 7, 8, 17, 18, 512, 513, 1 << 30, 1<<30 + 1, 1 << 32, 1<<32 | n, 1<<8 | n, 1<<16 | n} {
				sound(t, sealed(with(h, i, binary.AppendUvarint(nil, high))))
			}
		}
	}
}

// TestGetOfHowManyMarks: more than may be, and more or fewer than are there.
func TestGetOfHowManyMarks(t *testing.T) {
	for n := range 140 {
		h := many(n, 0, 0)
		if n <= 17 {
			gets(t, byHand(h), h)
		} else {
			isNone(t, "more marks than may be", inside(h))
		}
		for told := range 40 {
			if told != n {
				isNone(t, "another count of marks", with(h, 6, []byte{byte(told)}))
			}
		}
		for _, told := range []uint64{1<<8 + uint64(n), 1<<32 + uint64(n), math.MaxInt, 1<<63 + uint64(n), math.MaxUint64} {
			isNone(t, "another count of marks", with(h, 6, binary.AppendUvarint(nil, told)))
		}
	}
}

// TestGetOfNames: each byte at each place of a name, and another count than it has.
func TestGetOfNames(t *testing.T) {
	for _, h := range right()[:12] {
		for i, sort := range places(h) {
			if sort != 's' {
				continue
			}
			name := parts(h)[i]
			for at := range name {
				for c := range 256 {
					odd := bytes.Clone(name)
					odd[at] = byte(c)
					sound(t, sealed(with(h, i, odd)))
				}
			}
			for n := range 300 {
				sound(t, sealed(with(h, i-1, binary.AppendUvarint(nil, uint64(n)))))
				text := strings.Repeat("b", n)
				sound(t, sealed(with(h, i-1, append(binary.AppendUvarint(nil, uint64(n+len(name))), text...))))
				sound(t, sealed(with(h, i-1, append(binary.AppendUvarint(nil, uint64(n+1+len(name))), "~"+text...))))
			}
		}
	}
}

// TestGetOfWhatIsNotRight: well laid and sealed, but no record.
func TestGetOfWhatIsNotRight(t *testing.T) {
	for _, h := range append(wrong(), rows(3)...) {
		if !legal(h) {
			isNone(t, "what isn't Right", inside(h))
		}
	}
}

// TestGetOfEachShortRow: of many short rows, sealed, just those are read that are a Put's.
func TestGetOfEachShortRow(t *testing.T) {
	for code := range 1 << 16 {
		b := []byte{byte(code), byte(code >> 8)}
		sound(t, sealed(b[:1]))
		sound(t, sealed(b))
		sound(t, sealed(append([]byte{5, 4, 2, 2, 1}, b...)))
	}
	few := []byte{0, 1, 2, 4, 128}
	for code := range 5 * 5 * 5 * 5 * 5 * 5 {
		for _, ahead := range []string{"", "\x05\x04", "\x05\x04\x02\x02", "\x05\x04\x02\x02\x03\x00\x01", "\x05\x04\x02\x02\x03\x00\x01\x01\x00\x00"} {
			b := []byte(ahead)
			for n := code; n > 0; n /= 5 {
				b = append(b, few[n%5])
			}
			sound(t, sealed(b))
			sound(t, sealed(append(b, 'a')))
		}
	}
}

// P8.3

// drawn is a record that may be.
func drawn(r *rand.Rand) api.Head {
	h := api.Head{Size: r.Intn(513), Layout: api.Layout{Order: 3 + r.Intn(4), Count: 1 + r.Intn(4)}, Seq: r.Intn([]int{2, 9, 300, 1 << 20, api.MaxSeq}[r.Intn(5)] + 1)}
	h.Layout.Unit = 2 + r.Intn(h.Layout.Order-1)
	step := []int{1, 3, 200, 1 << 25}[r.Intn(4)]
	id, seen, holds := 0, 0, 0
	for range r.Intn(18) {
		id += 1 + r.Intn(step)
		m := api.Mark{ID: id, Name: fmt.Sprint("n", r.Intn(30)), Size: r.Intn(513), Gone: r.Intn(2) == 0}
		switch {
		case m.Gone:
		case r.Intn(8) == 0 && holds == 0:
			holds++
			m.Name = "~" + m.Name
		default:
			m.Name = fmt.Sprint("-", id)
			seen++
			m.Gone = seen > 8
		}
		h.Marks = append(h.Marks, m)
	}
	h.Next = id + 1 + r.Intn(step)
	return h
}

func TestGetOfPutIsIt(t *testing.T) {
	r := rand.New(rand.NewSource(82))
	all := right()
	for range 10000 {
		all = append(all, drawn(r))
	}
	for _, h := range all {
		isRight(t, h, true)
		b, why := header.Put(h)
		got, no := header.Get(b)
		if why != api.OK || no != api.OK || !same(got, h) || !header.Same(got, h) {
			t.Fatalf("P8.3: Get of the Put of %s: %s, %v, %v", tell(h), tell(got), why, no)
		}
		i, bit := r.Intn(len(b)), r.Intn(255)+1
		b[i] ^= byte(bit)
		if got, no := header.Get(b); no != api.ErrSum || !same(got, api.Head{}) {
			t.Fatalf("P8.3: Get of the Put of %s, byte %d turned by %d: %s, %v", tell(h), i, bit, tell(got), no)
		}
	}
}

// R1

// wild is a record of any kind.
func wild(r *rand.Rand) api.Head {
	any := func() int { return int(r.Uint64() >> r.Intn(64)) }
	names := []string{"a", "b", "~a", "~", "", "\x00", "n-1", "~~", strings.Repeat("a", 13)}
	h := api.Head{Size: any(), Layout: api.Layout{Order: any(), Unit: any(), Count: any()}, Next: any(), Seq: any()}
	if r.Intn(2) == 0 {
		h = api.Head{Size: 9, Layout: flat(), Next: 300, Seq: 9}
	}
	for range r.Intn(9) {
		h.Marks = append(h.Marks, api.Mark{ID: any(), Name: names[r.Intn(len(names))], Size: any(), Gone: r.Intn(3) == 0})
	}
	return h
}

// TestAny: records and bytes of any kind: calls end, and none panics.
func TestAny(t *testing.T) {
	r := rand.New(rand.NewSource(83))
	for range 20000 {
		h := wild(r)
		isRight(t, h, legal(h))
		if !header.Same(h, h) {
			t.Fatalf("P8.1: Same of %s and itself", tell(h))
		}
	}
	for range 100000 {
		b := make([]byte, r.Intn(30))
		r.Read(b)
		sound(t, b)
		for i := range b {
			b[i] %= 7
		}
		sound(t, sealed(b))
	}
	for _, c := range []byte{0, 1, 2, 4, 17, 127, 128, 255} {
		refuses(t, "many bytes", append(bytes.Repeat([]byte{c}, 1<<20), 1), api.ErrSum)
		isNone(t, "many bytes", bytes.Repeat([]byte{c}, 1<<20))
	}
	isRight(t, head(mark(1, strings.Repeat("a", 1<<20), 0)), false)
	isRight(t, head(mark(1, strings.Repeat("~", 1<<20), 0)), false)
	isRight(t, api.Head{Layout: flat(), Next: 1, Marks: make([]api.Mark, 1<<20)}, false)
}

// R2

// roomy is h, its Marks in memory of their own, with spare room behind them in which other marks lie.
func roomy(h api.Head) api.Head {
	l := append(slices.Clone(h.Marks), mark(61, "r", 1), gone(62, "s", 2), mark(63, "~t", 3))
	h.Marks = l[:len(h.Marks)]
	return h
}

// whole is h, and what lies in its spare room.
func whole(h api.Head) string {
	return fmt.Sprintf("%d %q", len(h.Marks), fmt.Sprint(h.Size, h.Layout, h.Next, h.Seq, h.Marks[:cap(h.Marks)]))
}

// spoil writes over all of l, its spare room too.
func spoil(l []api.Mark) {
	l = l[:cap(l)]
	for i := range l {
		l[i] = gone(-5, "spoilt", -5)
	}
}

func TestNothingHandedInIsChanged(t *testing.T) {
	for _, h := range slices.Concat(right(), wrong(), rows(2)) {
		if len(h.Marks) > 100 {
			continue
		}
		a := roomy(h)
		was := whole(a)
		header.Right(a)
		header.Put(a)
		header.Seen(a)
		header.Newest(a)
		header.Find(a, "a")
		header.Find(a, "none")
		header.Same(a, a)
		header.Same(a, head())
		if whole(a) != was {
			t.Fatalf("R2: %s was changed: %s", was, whole(a))
		}
		b := append(byHand(h), "spare"...)
		told := string(b)
		header.Get(b[:len(b)-5])
		if string(b) != told {
			t.Fatalf("R2: bytes were changed by Get of %s", tell(h))
		}
	}
}

func TestAnswersAreNewMemory(t *testing.T) {
	for _, h := range slices.Concat(right(), rows(2)) {
		a := roomy(h)
		was := whole(a)
		one, two := header.Seen(a), header.Seen(a)
		told := fmt.Sprint(two)
		spoil(one)
		if whole(a) != was || fmt.Sprint(two) != told {
			t.Fatalf("R2: Seen of %s shares memory", tell(h))
		}
		spoil(a.Marks)
		if fmt.Sprint(two) != told {
			t.Fatalf("R2: Seen of %s shares memory with what was handed in", tell(h))
		}
		if !legal(h) {
			continue
		}
		b := byHand(h)
		first, _ := header.Get(b)
		second, _ := header.Get(b)
		spoil(first.Marks)
		clear(b)
		if !same(second, h) {
			t.Fatalf("R2: Gets of %s share memory", tell(h))
		}
		c, _ := header.Put(h)
		d, _ := header.Put(h)
		clear(c[:cap(c)])
		if !bytes.Equal(d, byHand(h)) {
			t.Fatalf("R2: Puts of %s share memory", tell(h))
		}
	}
}

// R4, R5

// TestSpareRoomIsNotRead: what lies behind a list's length is none of it.
func TestSpareRoomIsNotRead(t *testing.T) {
	for _, h := range right() {
		a := roomy(h)
		isRight(t, a, true)
		looks(t, a)
		if !header.Same(a, h) || !header.Same(h, a) {
			t.Errorf("R5: Same of %s", tell(h))
		}
		b := append(byHand(h), 9)
		gets(t, b[:len(b)-1], h)
	}
	l := []api.Mark{mark(1, "a", 0), mark(9, "b", 0), mark(3, "a", 0)}
	for n := range 3 {
		h := head(l[:n]...)
		isRight(t, h, true)
		if _, there := header.Find(h, "b"); there != (n > 1) {
			t.Errorf("R5: Find in %s", tell(h))
		}
		if got := header.Newest(h); got != []int{0, 1, 9}[n] {
			t.Errorf("R5: Newest of %s: %d", tell(h), got)
		}
	}
}

func TestNilAndEmpty(t *testing.T) {
	want := byHand(head())
	for _, l := range [][]api.Mark{nil, {}, kinds()[:0]} {
		h := head(l...)
		h.Marks = l
		looks(t, h)
		if b, why := header.Put(h); !header.Right(h) || why != api.OK || !bytes.Equal(b, want) {
			t.Errorf("R4: Put of no marks: %v, %v", b, why)
		}
	}
}
