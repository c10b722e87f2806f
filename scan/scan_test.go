package scan_test

import (
	"bytes"
	"fmt"
	"math"
	"math/rand"
	"slices"
	"testing"

	"hectograph/api"
	"hectograph/frame"
	"hectograph/scan"
)

// held is a row of which it is known by hand what it has: its entries, one behind the other, and the bytes behind them, which are no frame.
type held struct {
	entries []api.Entry
	rest    []byte
}

// entry is one of that Data.
func entry(tag, seq int, data string) api.Entry {
	return api.Entry{Tag: tag, Seq: seq, Data: []byte(data)}
}

// text is n bytes that differ from number to number.
func text(seq, n int) string {
	b := make([]byte, n)
	for i := range b {
		b[i] = byte(seq + 7*i)
	}
	return string(b)
}

// laid is the frames of those entries, one behind the other.
func laid(l ...api.Entry) []byte {
	var b []byte
	for _, e := range l {
		f, why := frame.Lay(e)
		if why != api.OK {
			panic(why)
		}
		b = append(b, f...)
	}
	return b
}

// numbered is entries of those numbers, of one byte each: 23 bytes a frame.
func numbered(seqs ...int) []api.Entry {
	var l []api.Entry
	for _, n := range seqs {
		l = append(l, entry(1, n, text(n, 1)))
	}
	return l
}

// row is the frames of entries of those numbers, of one byte each.
func row(seqs ...int) []byte {
	return laid(numbered(seqs...)...)
}

// join is the parts one behind the other, in new memory.
func join(parts ...[]byte) []byte {
	return bytes.Join(parts, nil)
}

func rows(l ...[]byte) [][]byte {
	return l
}

// bytesOf is the rows themselves.
func bytesOf(l []held) [][]byte {
	var out [][]byte
	for _, h := range l {
		out = append(out, join(laid(h.entries...), h.rest))
	}
	return out
}

func same(a, b api.Entry) bool {
	return a.Tag == b.Tag && a.Seq == b.Seq && bytes.Equal(a.Data, b.Data)
}

// merged is what Merge should answer of l, by hand: every number is sought anew.
func merged(l []held, from int) []api.Entry {
	var out []api.Entry
	for {
		e, there := sought(l, from)
		if !there {
			return out
		}
		out = append(out, e)
		from++
	}
}

func sought(l []held, seq int) (api.Entry, bool) {
	for _, h := range l {
		for _, e := range h.entries {
			if e.Seq == seq {
				return e, true
			}
		}
	}
	return api.Entry{}, false
}

// ended and torn are what Ends and Torn should answer of l, by hand.
func ended(l []held, last int) ([]int, bool) {
	var out []int
	torn := false
	for _, h := range l {
		n, k := 0, 0
		for k < len(h.entries) && h.entries[k].Seq <= last {
			n += 22 + len(h.entries[k].Data)
			k++
		}
		out = append(out, n)
		torn = torn || k < len(h.entries) || len(h.rest) > 0
	}
	return out, torn
}

// least is what First should answer of l, by hand.
func least(l []held) int {
	var seqs []int
	for _, h := range l {
		for _, e := range h.entries {
			seqs = append(seqs, e.Seq)
		}
	}
	if len(seqs) == 0 {
		return 0
	}
	return slices.Min(seqs)
}

// isMerge fails the test, unless Merge answers just those entries.
func isMerge(t *testing.T, what string, rows [][]byte, from int, want ...api.Entry) {
	t.Helper()
	if got := scan.Merge(rows, from); !slices.EqualFunc(got, want, same) {
		t.Errorf("P11.1: Merge of %s from %d: %.200v, not %.200v", what, from, fmt.Sprint(got), fmt.Sprint(want))
	}
}

// isEnds fails the test, unless Ends and Torn answer those.
func isEnds(t *testing.T, what string, rows [][]byte, last int, torn bool, want ...int) {
	t.Helper()
	if got := scan.Ends(rows, last); !slices.Equal(got, want) {
		t.Errorf("P11.1: Ends of %s up to %d: %.200v, not %.200v", what, last, fmt.Sprint(got), fmt.Sprint(want))
	}
	if got := scan.Torn(rows, last); got != torn {
		t.Errorf("P11.1: Torn of %s up to %d: %v", what, last, got)
	}
}

// isFirst fails the test, unless First answers want.
func isFirst(t *testing.T, what string, rows [][]byte, want int) {
	t.Helper()
	if got := scan.First(rows); got != want {
		t.Errorf("P11.1: First of %s: %d, not %d", what, got, want)
	}
}

// isHeld fails the test, unless all calls answer of l what is known by hand, whatever number they are given.
func isHeld(t *testing.T, what string, l []held) {
	t.Helper()
	b := bytesOf(l)
	for _, n := range near(l) {
		isMerge(t, what, b, n, merged(l, n)...)
		ends, torn := ended(l, n)
		isEnds(t, what, b, n, torn, ends...)
	}
	isFirst(t, what, b, least(l))
}

// far is numbers that no entry has, or just about, the least and the greatest int among them.
func far() []int {
	return []int{math.MinInt, math.MinInt + 1, math.MinInt + 23, -1 << 62, -1 << 40, -1 << 32, math.MinInt32, -23, -2, -1, 0, 1<<40 - 1, 1 << 40, 1<<40 + 1, 1<<41 + 1, 1 << 62, math.MaxInt - 23, math.MaxInt - 1, math.MaxInt}
}

// near is all numbers that the entries of l have, those beside them, and those that are far from any.
func near(l []held) []int {
	out := far()
	for _, h := range l {
		for _, e := range h.entries {
			out = append(out, e.Seq-1, e.Seq, e.Seq+1, e.Seq+1<<32)
		}
	}
	slices.Sort(out)
	return slices.Compact(out)
}

// rests is bytes that no frame begins with, some with whole frames in them.
func rests() [][]byte {
	f := row(7)
	summed := bytes.Clone(f)
	summed[len(f)-1] ^= 1
	return [][]byte{{0}, {'H'}, []byte("HGJE"), []byte("HGJF"), make([]byte, 22), make([]byte, 23), make([]byte, 600), f[1:], f[:1], f[:22], summed, join([]byte{0}, f), join([]byte{'H'}, f, f), join(summed, f), join(f[:10], row(1, 2, 3))}
}

// P11.1: Merge

func TestMergeByHand(t *testing.T) {
	for _, c := range []struct {
		rows [][]byte
		from int
		want []int
	}{
		{nil, 1, nil},
		{rows(nil), 1, nil},
		{rows(nil, []byte{}, nil), 1, nil},
		{rows([]byte{1}), 1, nil},
		{rows(row(1)), 1, []int{1}},
		{rows(row(1, 2, 3)), 1, []int{1, 2, 3}},
		{rows(row(1), row(2), row(3)), 1, []int{1, 2, 3}},
		{rows(row(3), row(1), row(2)), 1, []int{1, 2, 3}},
		{rows(row(1, 4), row(2, 5), row(3, 6)), 1, []int{1, 2, 3, 4, 5, 6}},
		{rows(row(3, 6), row(1, 4), nil, row(2, 5)), 1, []int{1, 2, 3, 4, 5, 6}},
		// Those of a row may fall.
		{rows(row(3, 2, 1)), 1, []int{1, 2, 3}},
		{rows(row(9, 4), row(6, 5, 3)), 3, []int{3, 4, 5, 6}},
		// From in the middle, the last one, beyond all.
		{rows(row(1, 3, 5), row(2, 4)), 3, []int{3, 4, 5}},
		{rows(row(1, 3, 5), row(2, 4)), 5, []int{5}},
		{rows(row(1, 3, 5), row(2, 4)), 6, nil},
		{rows(row(1, 3, 5), row(2, 4)), 700, nil},
		// A number is missing.
		{rows(row(1, 3, 6), row(2, 7)), 1, []int{1, 2, 3}},
		{rows(row(1, 3, 6), row(2, 7)), 4, nil},
		{rows(row(1, 3, 6), row(2, 7)), 5, nil},
		{rows(row(1, 3, 6), row(2, 7)), 6, []int{6, 7}},
		{rows(row(2, 3)), 1, nil},
		// From below 1: it goes not by where the entries begin.
		{rows(row(1, 2)), 0, nil},
		{rows(row(1, 2)), -1, nil},
		{rows(row(1, 2)), math.MinInt, nil},
		{rows(row(1, 2)), math.MaxInt, nil},
		// The greatest numbers.
		{rows(row(1<<40), row(1<<40-1)), 1<<40 - 1, []int{1<<40 - 1, 1 << 40}},
		{rows(row(1<<40), row(1<<40-1)), 1 << 40, []int{1 << 40}},
		{rows(row(1<<40), row(1)), 1<<40 + 1, nil},
		// Bytes that are no frame end a row, whatever is behind them, but not the rows behind it.
		{rows(join(row(1, 2), []byte{0}, row(3)), row(4)), 1, []int{1, 2}},
		{rows(join(row(1, 2), []byte{0}, row(3)), row(3, 4)), 1, []int{1, 2, 3, 4}},
		{rows(join([]byte{0}, row(1)), row(2)), 1, nil},
		{rows(join([]byte{0}, row(1)), row(2)), 2, []int{2}},
		{rows(row(1, 2)[:45], row(3)), 1, []int{1}},
	} {
		isMerge(t, fmt.Sprint(c.rows), c.rows, c.from, numbered(c.want...)...)
	}
}

func TestMergeOfSeveralOfOneNumber(t *testing.T) {
	a, b, c := entry(1, 4, "a"), entry(2, 4, "bb"), entry(3, 4, "ccc")
	five := entry(1, 5, "e")
	torn := laid(a)[:22]
	for _, x := range []struct {
		what string
		rows [][]byte
		want []api.Entry
	}{
		{"two in a row", rows(laid(a, b)), []api.Entry{a}},
		{"two in a row, the other one first", rows(laid(b, a)), []api.Entry{b}},
		{"two in a row, another one between", rows(laid(b, five, a)), []api.Entry{b, five}},
		{"three in three rows", rows(laid(c), laid(a), laid(b)), []api.Entry{c}},
		{"three in two rows", rows(laid(b, a), laid(c)), []api.Entry{b}},
		{"the last one of the first row", rows(laid(five, b), laid(a, five)), []api.Entry{b, five}},
		{"behind an empty row", rows(nil, laid(c), laid(a)), []api.Entry{c}},
		{"one that is torn first", rows(torn, laid(b), laid(c)), []api.Entry{b}},
		{"one behind bytes that are no frame first", rows(join(laid(five), []byte{0}, laid(a)), laid(c, b)), []api.Entry{c, five}},
		{"just alike", rows(laid(a, a), laid(a)), []api.Entry{a}},
		{"the same row twice", rows(laid(a, five), laid(a, five)), []api.Entry{a, five}},
	} {
		isMerge(t, x.what, x.rows, 4, x.want...)
	}
}

func TestMergeOfLongEntries(t *testing.T) {
	var odd, even []api.Entry
	for n := 1; n <= api.MaxPayload; n++ {
		e := entry(n, n, text(n, n))
		if n%2 == 1 {
			odd = append(odd, e)
		} else {
			even = append(even, e)
		}
	}
	l := []held{{even, nil}, {odd, []byte("HGJE")}}
	isHeld(t, "entries of all sizes", l)
	if got := scan.Merge(bytesOf(l), 1); len(got) != api.MaxPayload {
		t.Errorf("P11.1: %d entries", len(got))
	}
}

// P11.1: Ends and Torn

func TestEndsByHand(t *testing.T) {
	long := laid(entry(1, 2, text(2, 90)), entry(1, 5, "ab"), entry(1, 8, text(8, 10)))
	for _, c := range []struct {
		rows [][]byte
		last int
		torn bool
		want []int
	}{
		{nil, 1, false, nil},
		{rows(nil), 1, false, []int{0}},
		{rows(nil, []byte{}, nil), 1, false, []int{0, 0, 0}},
		{rows([]byte{1}), 1, true, []int{0}},
		{rows([]byte{1}), math.MaxInt, true, []int{0}},
		{rows(row(1)), 1, false, []int{23}},
		{rows(row(1)), 2, false, []int{23}},
		{rows(row(1)), 0, true, []int{0}},
		// Below every number, equal to one, in between, above all.
		{rows(long), 1, true, []int{0}},
		{rows(long), 2, true, []int{112}},
		{rows(long), 4, true, []int{112}},
		{rows(long), 5, true, []int{136}},
		{rows(long), 7, true, []int{136}},
		{rows(long), 8, false, []int{168}},
		{rows(long), 9, false, []int{168}},
		{rows(long), math.MinInt, true, []int{0}},
		{rows(long), math.MaxInt, false, []int{168}},
		// One row alone has something behind its end: the first one, one in between, the last one.
		{rows(row(1, 9), row(2), row(3)), 3, true, []int{23, 23, 23}},
		{rows(row(1), row(2, 9), row(3)), 3, true, []int{23, 23, 23}},
		{rows(row(1), row(2), row(3, 9)), 3, true, []int{23, 23, 23}},
		{rows(row(1), row(2), row(3)), 3, false, []int{23, 23, 23}},
		{rows(row(1), nil, join(row(2), []byte{0})), 3, true, []int{23, 0, 23}},
		{rows([]byte{0}, row(1), row(2)), 3, true, []int{0, 23, 23}},
		// One above last ends a row, whatever is behind it.
		{rows(row(1, 9, 2)), 4, true, []int{23}},
		{rows(row(9, 1, 2), row(3, 4)), 4, true, []int{0, 46}},
		{rows(row(2, 1, 9, 9)), 2, true, []int{46}},
		// Those that fall are within, as long as they are not above last.
		{rows(row(4, 3, 3, 1)), 4, false, []int{92}},
		{rows(row(4, 3, 3, 1)), 3, true, []int{0}},
		// Bytes that are no frame end a row, whatever is behind them.
		{rows(join(row(1, 3), []byte{0}, row(4))), 4, true, []int{46}},
		{rows(join(row(1, 3), row(4)[:22])), 4, true, []int{46}},
		{rows(join(row(1, 3), row(4)[:22])), 2, true, []int{23}},
		{rows(join([]byte("HGJE"), row(1))), 4, true, []int{0}},
		// The greatest numbers.
		{rows(row(1<<40-1, 1<<40)), 1<<40 - 1, true, []int{23}},
		{rows(row(1<<40-1, 1<<40)), 1 << 40, false, []int{46}},
		{rows(row(1 << 40)), 1 << 32, true, []int{0}},
	} {
		isEnds(t, fmt.Sprint(c.rows), c.rows, c.last, c.torn, c.want...)
	}
}

// P11.1: First

func TestFirstByHand(t *testing.T) {
	for _, c := range []struct {
		rows [][]byte
		want int
	}{
		{nil, 0},
		{rows(nil), 0},
		{rows(nil, []byte{}, nil), 0},
		{rows([]byte{1}), 0},
		{rows(row(1)), 1},
		{rows(row(5)), 5},
		{rows(row(5, 6, 7)), 5},
		{rows(row(7, 6, 5)), 5},
		{rows(row(7, 5, 6)), 5},
		{rows(row(9), row(7, 5, 8), row(6)), 5},
		{rows(row(5, 9), row(7), row(6)), 5},
		{rows(row(9), row(7), row(6, 5)), 5},
		{rows(row(5, 5), row(5)), 5},
		{rows(nil, row(8), nil), 8},
		{rows([]byte{0}, row(8), row(9)), 8},
		{rows(row(1<<40), row(1<<40-1)), 1<<40 - 1},
		{rows(row(1 << 40)), 1 << 40},
		{rows(row(1<<32+1), row(2)), 2},
		// What no frame is, and what is behind that, counts for nothing.
		{rows(join(row(9), []byte{0}, row(2)), row(8)), 8},
		{rows(join([]byte{0}, row(2))), 0},
		{rows(row(3)[:22], row(8)), 8},
	} {
		isFirst(t, fmt.Sprint(c.rows), c.rows, c.want)
	}
}

// P11.1: what is no frame

func TestBytesBehind(t *testing.T) {
	for _, rest := range rests() {
		for _, n := range []int{0, 1, 4} {
			seqs := []int{3, 4, 6, 8}[:n]
			isHeld(t, "bytes behind the entries", []held{{numbered(seqs...), rest}})
			isHeld(t, "bytes behind the first row's entries", []held{{numbered(seqs...), rest}, {numbered(5, 7), nil}})
			isHeld(t, "bytes behind the last row's entries", []held{{numbered(2, 5), nil}, {numbered(seqs...), rest}})
			isHeld(t, "bytes behind both rows' entries", []held{{numbered(seqs...), rest}, {}, {numbered(5, 4), rest}})
		}
	}
}

// atEachByte calls act with the entries that are wholly ahead of each byte of their frames.
func atEachByte(l []api.Entry, act func(at int, ahead []api.Entry)) {
	begin := 0
	for i, e := range l {
		for at := begin; at < begin+22+len(e.Data); at++ {
			act(at, l[:i])
		}
		begin += 22 + len(e.Data)
	}
}

func TestCutOffAnywhere(t *testing.T) {
	l := []api.Entry{entry(1, 2, "abc"), entry(1, 4, text(4, 90)), entry(2, 3, "d")}
	other := held{numbered(5, 1), nil}
	b := laid(l...)
	atEachByte(l, func(at int, ahead []api.Entry) {
		whole := len(laid(ahead...))
		h := held{ahead, b[whole:at]}
		isHeld(t, fmt.Sprint("a row cut off at ", at), []held{h})
		isHeld(t, fmt.Sprint("a row cut off at ", at, " ahead of another one"), []held{h, other})
		isHeld(t, fmt.Sprint("a row cut off at ", at, " behind another one"), []held{other, h})
	})
	isHeld(t, "a row that isn't cut off", []held{{l, nil}})
}

func TestAByteTurned(t *testing.T) {
	l := []api.Entry{entry(1, 2, "abc"), entry(1, 4, text(4, 40)), entry(2, 3, "d")}
	other := held{numbered(5, 1), nil}
	b := laid(l...)
	atEachByte(l, func(at int, ahead []api.Entry) {
		whole := len(laid(ahead...))
		for _, mask := range []byte{1, 2, 128, 255} {
			turned := bytes.Clone(b)
			turned[at] ^= mask
			h := held{ahead, turned[whole:]}
			isHeld(t, fmt.Sprint("a row with the byte ", at, " turned"), []held{h, other})
		}
	})
}

// drawnRow is a row of entries of any numbers up to 12, of any sizes, often with bytes behind them that are no frame.
func drawnRow(r *rand.Rand) held {
	var h held
	for range r.Intn(6) {
		seq := 1 + r.Intn(12)
		h.entries = append(h.entries, entry(1+r.Intn(3), seq, text(seq, 1+r.Intn(90))))
	}
	if r.Intn(3) == 0 {
		l := rests()
		h.rest = l[r.Intn(len(l))]
	}
	return h
}

func TestAnyRows(t *testing.T) {
	r := rand.New(rand.NewSource(1))
	for range 1500 {
		l := make([]held, r.Intn(5))
		for i := range l {
			l[i] = drawnRow(r)
		}
		isHeld(t, "any rows", l)
	}
}

// P11.2

// drawnRising is rows whose entries' numbers rise, no number twice in all, some numbers left out, some rows with bytes behind their entries.
func drawnRising(r *rand.Rand) []held {
	l := make([]held, 1+r.Intn(4))
	seq := r.Intn(4)
	if r.Intn(10) == 0 {
		seq = api.MaxSeq - 200
	}
	for range r.Intn(20) {
		seq++
		if r.Intn(8) == 0 {
			seq += r.Intn(3)
		}
		h := &l[r.Intn(len(l))]
		h.entries = append(h.entries, entry(1+r.Intn(3), seq, text(seq, 1+r.Intn(90))))
	}
	for i := range l {
		if r.Intn(3) == 0 {
			some := rests()
			l[i].rest = some[r.Intn(len(some))]
		}
	}
	return l
}

// cutAt is the rows cut at those ends, without spare room.
func cutAt(t *testing.T, rows [][]byte, ends []int) [][]byte {
	t.Helper()
	if len(ends) != len(rows) {
		t.Fatalf("P11.1: %d ends of %d rows", len(ends), len(rows))
	}
	var l [][]byte
	for i, b := range rows {
		if ends[i] < 0 || ends[i] > len(b) {
			t.Fatalf("P11.1: the end of a row of %d bytes: %d", len(b), ends[i])
		}
		l = append(l, bytes.Clone(b[:ends[i]]))
	}
	return l
}

// upTo is the entries ahead of the first one above last.
func upTo(l []api.Entry, last int) []api.Entry {
	for i, e := range l {
		if e.Seq > last {
			return l[:i]
		}
	}
	return l
}

// cutsWell fails the test, unless the rows cut at their Ends are as the chapter says.
func cutsWell(t *testing.T, rows [][]byte, last int, from []int) {
	t.Helper()
	ends := scan.Ends(rows, last)
	cut := cutAt(t, rows, ends)
	if scan.Torn(cut, last) {
		t.Errorf("P11.2: Torn of %v, cut at %v, up to %d", rows, ends, last)
	}
	if again := scan.Ends(cut, last); !slices.Equal(again, ends) {
		t.Errorf("P11.2: rows that are cut already end elsewhere up to %d: %v, not %v", last, again, ends)
	}
	for _, n := range from {
		want := upTo(scan.Merge(rows, n), last)
		if got := scan.Merge(cut, n); !slices.EqualFunc(got, want, same) {
			t.Errorf("P11.2: Merge from %d of rows cut up to %d: %v, not %v", n, last, got, want)
		}
	}
}

func TestRowsCutAtTheirEnds(t *testing.T) {
	r := rand.New(rand.NewSource(2))
	for range 150 {
		l := drawnRising(r)
		b, some := bytesOf(l), near(l)
		for _, last := range some {
			cutsWell(t, b, last, []int{least(l), last - 1, last, last + 1, some[r.Intn(len(some))], some[r.Intn(len(some))]})
		}
	}
}

func TestTornRowsCutAtTheirEnds(t *testing.T) {
	r := rand.New(rand.NewSource(3))
	for range 150 {
		l := drawnRising(r)
		b, some := bytesOf(l), near(l)
		for i := range b {
			if n := len(b[i]); n > 0 && r.Intn(2) == 0 {
				b[i] = b[i][:r.Intn(n)]
			} else if n > 0 && r.Intn(2) == 0 {
				b[i][r.Intn(n)] ^= byte(1 + r.Intn(255))
			}
		}
		for _, last := range some {
			cutsWell(t, b, last, []int{least(l), last - 1, last, last + 1, some[r.Intn(len(some))], some[r.Intn(len(some))]})
		}
	}
}

// The rules that hold everywhere

func TestExamples(t *testing.T) {
	isMerge(t, "none", nil, 1)
	isFirst(t, "none", nil, 0)
	for n := range 256 {
		isEnds(t, "a row that is a byte", rows([]byte{byte(n)}), 5, true, 0)
	}
}

func TestNothingPanics(t *testing.T) {
	r := rand.New(rand.NewSource(4))
	for range 3000 {
		var b [][]byte
		for range r.Intn(5) {
			x := make([]byte, r.Intn(120))
			r.Read(x)
			if r.Intn(2) == 0 {
				x = join(row(1+r.Intn(5), 1+r.Intn(5)), x)
			}
			b = append(b, x)
		}
		for _, n := range append(far(), 1, 2, 3, 4, 5) {
			ends := scan.Ends(b, n)
			cut := cutAt(t, b, ends)
			if got := scan.Torn(b, n); got != !slices.EqualFunc(b, cut, bytes.Equal) {
				t.Errorf("P11.1: Torn of %v, whose ends are %v: %v", b, ends, got)
			}
			for i, e := range scan.Merge(b, n) {
				if e.Seq != n+i {
					t.Errorf("P11.1: entry %d of Merge from %d has the number %d", i, n, e.Seq)
				}
			}
		}
		if first := scan.First(b); first < 0 || first > 0 && len(scan.Merge(b, first)) == 0 {
			t.Errorf("P11.1: First of %v: %d", b, first)
		}
	}
}

func TestTheGreatestAndTheLeastInEveryPlace(t *testing.T) {
	full := rows(row(1, 3), row(2), []byte{0})
	isEnds(t, "three rows", full, math.MinInt, true, 0, 0, 0)
	isEnds(t, "three rows", full, math.MaxInt, true, 46, 23, 0)
	isEnds(t, "two rows", full[:2], math.MaxInt, false, 46, 23)
	for _, n := range []int{math.MinInt, math.MaxInt} {
		isMerge(t, "three rows", full, n)
		isMerge(t, "no rows", nil, n)
		isEnds(t, "no rows", nil, n, false)
		isEnds(t, "an empty row", rows([]byte{}), n, false, 0)
	}
}

func TestLongRows(t *testing.T) {
	const count = 60000
	b := make([][]byte, 4)
	for seq := count; seq >= 1; seq-- {
		b[seq%3] = append(b[seq%3], row(seq)...)
	}
	l := scan.Merge(b, 1)
	for i, e := range l {
		if e.Seq != i+1 {
			t.Fatalf("P11.1: entry %d has the number %d", i, e.Seq)
		}
	}
	if len(l) != count {
		t.Errorf("P11.1: %d entries", len(l))
	}
	isFirst(t, "long rows", b, 1)
	isEnds(t, "long rows", b, count, false, 23*count/3, 23*count/3, 23*count/3, 0)
	isEnds(t, "long rows that fall", b, count-1, true, 0, 23*count/3, 23*count/3, 0)
}

func TestManyRows(t *testing.T) {
	var b [][]byte
	var ends []int
	for seq := 20000; seq >= 1; seq-- {
		b = append(b, row(seq), nil)
		ends = append(ends, 23, 0)
	}
	if l := scan.Merge(b, 1); len(l) != 20000 {
		t.Errorf("P11.1: %d entries of so many rows", len(l))
	}
	isFirst(t, "many rows", b, 1)
	isEnds(t, "many rows", b, 20000, false, ends...)
	ends[0] = 0
	isEnds(t, "many rows", b, 19999, true, ends...)
}

// callAll calls all that there is, with numbers of every kind.
func callAll(b [][]byte) {
	for _, n := range append(far(), 1, 2, 3, 4, 5) {
		scan.Merge(b, n)
		scan.Ends(b, n)
		scan.Torn(b, n)
	}
	scan.First(b)
}

func TestNothingHandedInIsChanged(t *testing.T) {
	room := [][]byte{append(row(1, 4), 'x', 'y'), row(2, 5), append(row(3), 7), row(6), {8}}
	var kept [][]byte
	for _, b := range room {
		kept = append(kept, bytes.Clone(b))
	}
	// Bytes behind a row's end and rows behind the list's are spare room.
	given := [][]byte{room[0][:47], room[1][:23], room[2][:23]}
	all := append(given, room[3], room[4])
	callAll(all[:3])
	if !slices.EqualFunc(room, kept, bytes.Equal) {
		t.Errorf("R2: the rows are %v, not %v", room, kept)
	}
	if len(all[0]) != 47 || len(all[1]) != 23 || len(all[2]) != 23 || !bytes.Equal(all[3], kept[3]) || !bytes.Equal(all[4], kept[4]) {
		t.Errorf("R2: the list of rows is %v", all)
	}
}

func TestAnswersAreNewMemory(t *testing.T) {
	l := []held{{numbered(1, 3), []byte{0}}, {numbered(2, 1), nil}}
	b := bytesOf(l)
	kept := bytesOf(l)
	first := scan.Merge(b, 1)
	second := scan.Merge(b, 1)
	for i := range first {
		whole := first[i].Data[:cap(first[i].Data)]
		for k := range whole {
			whole[k] = 42
		}
		first[i].Tag = 99
	}
	if !slices.EqualFunc(b, kept, bytes.Equal) {
		t.Errorf("R2: the entries' bytes are the rows' own: %v", b)
	}
	if !slices.EqualFunc(second, numbered(1, 2, 3), same) {
		t.Errorf("R2: two answers share memory: %v", second)
	}
	for i := range b {
		for k := range b[i] {
			b[i][k] = 13
		}
	}
	if !slices.EqualFunc(second, numbered(1, 2, 3), same) {
		t.Errorf("R2: the answer changes with the rows: %v", second)
	}
	ends := scan.Ends(kept, 3)
	for i := range ends {
		ends[i] = -1
	}
	isEnds(t, "rows of which an earlier answer was written over", kept, 3, true, 46, 46)
}

func TestEntriesShareNoMemory(t *testing.T) {
	four := row(4)
	b := rows(join(row(3), four), four, row(5, 6))
	l := scan.Merge(b, 3)
	want := numbered(3, 4, 5, 6)
	for i := range l {
		whole := l[i].Data[:cap(l[i].Data)]
		for k := range whole {
			whole[k] = 42
		}
		l[i].Data = append(l[i].Data, 43)
		for j := i + 1; j < len(l); j++ {
			if !same(l[j], want[j]) {
				t.Errorf("R2: entries %d and %d of one Merge share memory", i, j)
			}
		}
	}
	isMerge(t, "rows of which an earlier answer was written over", b, 3, want...)
}

func TestNilAndEmpty(t *testing.T) {
	for _, n := range append(far(), 1, 2) {
		for _, b := range [][][]byte{nil, {}} {
			isMerge(t, "no rows", b, n)
			isEnds(t, "no rows", b, n, false)
			isFirst(t, "no rows", b, 0)
		}
		for _, x := range [][]byte{nil, {}} {
			isMerge(t, "an empty row", rows(x), n)
			isEnds(t, "an empty row", rows(x), n, false, 0)
			isFirst(t, "an empty row", rows(x), 0)
			isMerge(t, "empty rows", rows(x, nil, x), n)
			isEnds(t, "empty rows", rows(x, nil, x), n, false, 0, 0, 0)
			isFirst(t, "empty rows", rows(x, []byte{}, x), 0)
			isHeld(t, "an empty row among others", []held{{}, {numbered(1, 2), x}, {}})
		}
	}
}

func TestSpareRoomIsNotRead(t *testing.T) {
	b := row(1, 2, 3)
	isMerge(t, "entries in spare room", rows(b[:0]), 1)
	isFirst(t, "entries in spare room", rows(b[:0]), 0)
	isEnds(t, "entries in spare room", rows(b[:0]), 3, false, 0)
	for n := 23; n < 46; n++ {
		isMerge(t, "an entry whose end lies in spare room", rows(b[:n]), 1, numbered(1)...)
		isEnds(t, "an entry whose end lies in spare room", rows(b[:n]), 3, n > 23, 23)
		isFirst(t, "an entry whose end lies in spare room", rows(b[:n]), 1)
	}
	l := rows(row(5), row(6), row(4))
	isMerge(t, "a row in spare room", l[:1], 5, numbered(5)...)
	isEnds(t, "a row in spare room", l[:1], 9, false, 23)
	isFirst(t, "a row in spare room", l[:2], 5)
	isEnds(t, "a torn row in spare room", rows(row(5), []byte{0})[:1], 9, false, 23)
}

func TestAnswersHangOnWhatIsGivenAlone(t *testing.T) {
	r := rand.New(rand.NewSource(5))
	l := []held{drawnRow(r), drawnRow(r), drawnRow(r), {numbered(9, 8, 7, 6, 5, 4, 3, 2, 1), nil}}
	b := bytesOf(l)
	first := scan.Merge(b, 1)
	for range 200 {
		callAll(b)
		if again := scan.Merge(b, 1); !slices.EqualFunc(first, again, same) {
			t.Fatalf("R4: %v, then %v", first, again)
		}
	}
}
