package stripe_test

import (
	"math"
	"math/rand"
	"slices"
	"testing"

	"hectograph/api"
	"hectograph/header"
	"hectograph/stripe"
)

// layout is short for what it answers.
func layout(order, unit, count int) api.Layout {
	return api.Layout{Order: order, Unit: unit, Count: count}
}

// small, deep, lone and wide are layouts that the cases by hand go by: of two objects of two units; of three of four; of one of four; of units that are whole objects.
var (
	small = layout(3, 2, 2)
	deep  = layout(5, 3, 3)
	lone  = layout(4, 2, 1)
	wide  = layout(6, 6, 4)
)

// shapes is all layouts that may be.
func shapes() []api.Layout {
	var l []api.Layout
	for order := 3; order <= 6; order++ {
		for unit := 2; unit <= order; unit++ {
			for count := 1; count <= 4; count++ {
				l = append(l, layout(order, unit, count))
			}
		}
	}
	return l
}

// far is numbers that are nowhere near a limit, those among them whose lowest bits are a number that may be, or which an addition, a product or a shift may carry over the edge.
func far() []int {
	return []int{math.MinInt, math.MinInt + 1, math.MinInt + 2, math.MinInt + 3, math.MinInt + 5, math.MinInt + 64, math.MinInt + 512, math.MinInt + 1<<20, math.MinInt + 1<<30, -1 << 58, -1 << 40, -1 << 32, math.MinInt32, -1 << 30, -1 << 20, -4096, -513, -512, 1<<32 + 2, 1<<32 + 3, 1<<32 + 512, 1<<40 + 4, 1 << 56, 1 << 57, 1 << 58, 1<<58 + 1, 1 << 60, 1 << 61, 1 << 62, 1<<62 + 3, math.MaxInt - 1<<30, math.MaxInt - 1<<20, math.MaxInt - 512, math.MaxInt - 511, math.MaxInt - 63, math.MaxInt - 2, math.MaxInt - 1, math.MaxInt}
}

// edges is numbers at all edges that the document names, just beyond them, and far off.
func edges() []int {
	return append(far(), -64, -9, -5, -4, -3, -2, -1, 0, 1, 2, 3, 4, 5, 6, 7, 8, 9, 15, 16, 17, 31, 32, 33, 63, 64, 65, 127, 128, 129, 255, 256, 257, 510, 511, 512, 513, 514, 1023, 1024, 1<<20-1, 1<<20, 1<<20+1, 1<<20+2, 1<<30-1, 1<<30, 1<<30+1, 1<<30+2, 1<<31, 1<<32)
}

// crooked is layouts that may not be: each number at its edge and far off, alone and beside others.
func crooked() []api.Layout {
	l := []api.Layout{{}, layout(2, 2, 1), layout(7, 2, 1), layout(7, 7, 4), layout(3, 1, 1), layout(3, 4, 1), layout(6, 7, 4), layout(4, 5, 2), layout(5, 6, 2), layout(3, 2, 0), layout(3, 2, 5), layout(6, 6, 5), layout(2, 3, 4), layout(1, 3, 2), layout(63, 63, 1), layout(64, 2, 1), layout(64, 64, 4), layout(-1, -1, -1), layout(0, 0, 1), layout(1, 1, 1)}
	for _, n := range append(far(), -64, -3, -1, 0, 1, 2, 7, 8, 62, 63, 64, 65, 256+3, 256+6, 1<<16+3) {
		l = append(l, layout(n, 2, 1), layout(n, 3, 4), layout(n, n, 2))
	}
	for _, n := range append(far(), -64, -2, -1, 0, 1, 7, 8, 63, 64, 256+2, 1<<16+2) {
		l = append(l, layout(3, n, 1), layout(6, n, 4))
	}
	for _, n := range append(far(), -4, -2, -1, 0, 5, 6, 8, 256+1, 256+4, 1<<16+2) {
		l = append(l, layout(3, 2, n), layout(6, 6, n), layout(5, 3, n))
	}
	return l
}

// place is where a byte lies.
type place struct{ obj, at int }

// walk is where the first bytes of an image lie, byte by byte: Count objects side by side, a unit of each in turn, till they are full; then the next ones.
func walk(l api.Layout, rounds int) []place {
	unit, object := 1, 1
	for range l.Unit {
		unit *= 2
	}
	for range l.Order {
		object *= 2
	}
	var out []place
	for first := 0; first < rounds*l.Count; first += l.Count {
		for begin := 0; begin < object; begin += unit {
			for column := range l.Count {
				for k := range unit {
					out = append(out, place{first + column, begin + k})
				}
			}
		}
	}
	return out
}

// roundsOf is how many rounds hold so many bytes.
func roundsOf(l api.Layout, n int) int {
	return n/(l.Count*int(math.Pow(2, float64(l.Order)))) + 1
}

// placeOf is where a byte lies, by what comes round again with each round of objects.
func placeOf(l api.Layout, off int) place {
	one := walk(l, 1)
	p := one[off%len(one)]
	return place{p.obj + off/len(one)*l.Count, p.at}
}

// cut is the pieces of those places, byte by byte: a byte that is the next one of the object of the byte ahead goes on with its piece.
func cut(places []place) []api.Extent {
	var l []api.Extent
	for i, p := range places {
		if i > 0 && places[i-1] == (place{p.obj, p.at - 1}) {
			l[len(l)-1].Len++
		} else {
			l = append(l, api.Extent{Obj: p.obj, Off: p.at, Len: 1, At: i})
		}
	}
	return l
}

// between is what holds n between 0 and 512, limit by limit.
func between(n int) int {
	if n < 0 {
		return 0
	}
	if n > 512 {
		return 512
	}
	return n
}

// isPlace fails the test, unless Place answers that.
func isPlace(t *testing.T, l api.Layout, off, obj, at int) {
	t.Helper()
	if o, a := stripe.Place(l, off); o != obj || a != at {
		t.Errorf("P12.1: Place of %v, %d: %d, %d, not %d, %d", l, off, o, a, obj, at)
	}
}

// isBack fails the test, unless Back answers that.
func isBack(t *testing.T, l api.Layout, obj, at, want int) {
	t.Helper()
	if got := stripe.Back(l, obj, at); got != want {
		t.Errorf("P12.1: Back of %v, %d, %d: %d, not %d", l, obj, at, got, want)
	}
}

// isMap fails the test, unless Map answers just those pieces.
func isMap(t *testing.T, l api.Layout, off, n int, want ...api.Extent) {
	t.Helper()
	if got := stripe.Map(l, off, n); !slices.Equal(got, want) {
		t.Errorf("P12.2: Map of %v, %d, %d: %v, not %v", l, off, n, got, want)
	}
}

// isObjects fails the test, unless Objects answers that.
func isObjects(t *testing.T, l api.Layout, size, want int) {
	t.Helper()
	if got := stripe.Objects(l, size); got != want {
		t.Errorf("P12.2: Objects of %v, %d: %d, not %d", l, size, got, want)
	}
}

// isBytes fails the test, unless Bytes answers that.
func isBytes(t *testing.T, l api.Layout, size, obj, want int) {
	t.Helper()
	if got := stripe.Bytes(l, size, obj); got != want {
		t.Errorf("P12.2: Bytes of %v, %d, %d: %d, not %d", l, size, obj, got, want)
	}
}

// P12.1: Place

func TestPlaceByHand(t *testing.T) {
	for _, c := range []struct {
		l            api.Layout
		off, obj, at int
	}{
		// The run.
		{small, 4, 1, 0},
		// The last byte of a unit and the next one.
		{small, 0, 0, 0}, {small, 3, 0, 3}, {small, 7, 1, 3}, {small, 8, 0, 4}, {small, 11, 0, 7}, {small, 12, 1, 4},
		{deep, 7, 0, 7}, {deep, 8, 1, 0}, {deep, 15, 1, 7}, {deep, 16, 2, 0}, {deep, 23, 2, 7}, {deep, 24, 0, 8}, {deep, 47, 2, 15}, {deep, 48, 0, 16},
		// The last byte of an object and the next one.
		{small, 15, 1, 7}, {small, 16, 2, 0}, {small, 17, 2, 1}, {small, 20, 3, 0}, {small, 31, 3, 7}, {small, 32, 4, 0},
		{deep, 79, 0, 31}, {deep, 80, 1, 24}, {deep, 95, 2, 31}, {deep, 96, 3, 0}, {deep, 104, 4, 0}, {deep, 112, 5, 0}, {deep, 120, 3, 8},
		{lone, 3, 0, 3}, {lone, 4, 0, 4}, {lone, 15, 0, 15}, {lone, 16, 1, 0}, {lone, 37, 2, 5}, {lone, 511, 31, 15},
		{wide, 63, 0, 63}, {wide, 64, 1, 0}, {wide, 255, 3, 63}, {wide, 256, 4, 0}, {wide, 511, 7, 63},
		{layout(3, 3, 1), 8, 1, 0}, {layout(3, 3, 2), 8, 1, 0}, {layout(3, 3, 2), 16, 2, 0}, {layout(6, 2, 4), 511, 7, 63}, {layout(6, 2, 4), 255, 3, 63}, {layout(6, 2, 4), 256, 4, 0},
		// The last byte of all.
		{small, 1 << 30, 1 << 27, 0}, {small, 1<<30 - 1, 1<<27 - 1, 7}, {lone, 1 << 30, 1 << 26, 0}, {lone, 1<<30 - 1, 1<<26 - 1, 15}, {wide, 1 << 30, 1 << 24, 0},
		{deep, 1 << 30, 33554432, 16}, // 64 bytes behind 11184810 rounds of three objects: unit 2 of the third one
	} {
		isPlace(t, c.l, c.off, c.obj, c.at)
	}
}

func TestPlaceOfEachByte(t *testing.T) {
	for _, l := range shapes() {
		for off, p := range walk(l, roundsOf(l, 2000)) {
			isPlace(t, l, off, p.obj, p.at)
		}
		for back := range 600 {
			p := placeOf(l, 1<<30-back)
			isPlace(t, l, 1<<30-back, p.obj, p.at)
		}
		for shift := 5; shift < 30; shift++ {
			for off := 1<<shift - 70; off < 1<<shift+70; off++ {
				if off >= 0 {
					p := placeOf(l, off)
					isPlace(t, l, off, p.obj, p.at)
				}
			}
		}
	}
}

func TestPlaceOfWhatIsNoByte(t *testing.T) {
	for _, l := range shapes() {
		for _, off := range append(far(), -5, -4, -2, -1, 1<<30+1, 1<<30+2, 1<<30+5, 1<<31, 1<<32, 1<<32+5) {
			isPlace(t, l, off, 0, 0)
		}
	}
}

// P12.1: Back

func TestBackByHand(t *testing.T) {
	for _, c := range []struct {
		l             api.Layout
		obj, at, want int
	}{
		{small, 0, 0, 0}, {small, 0, 3, 3}, {small, 0, 4, 8}, {small, 0, 7, 11}, {small, 1, 0, 4}, {small, 1, 5, 13}, {small, 1, 7, 15}, {small, 2, 0, 16}, {small, 3, 0, 20}, {small, 3, 7, 31},
		{deep, 0, 31, 79}, {deep, 1, 24, 80}, {deep, 2, 31, 95}, {deep, 3, 0, 96}, {deep, 3, 8, 120}, {deep, 5, 31, 191},
		{lone, 0, 15, 15}, {lone, 1, 0, 16}, {lone, 2, 5, 37},
		{wide, 0, 63, 63}, {wide, 3, 63, 255}, {wide, 4, 0, 256},
		// The last object of all.
		{small, 1 << 20, 0, 1 << 23}, {small, 1 << 20, 7, 1<<23 + 11}, {small, 1<<20 - 1, 7, 1<<23 - 1},
		{lone, 1 << 20, 0, 1 << 24}, {lone, 1 << 20, 15, 1<<24 + 15}, {wide, 1 << 20, 63, 1<<26 + 63},
		{deep, 1 << 20, 0, 33554408}, {deep, 1 << 20, 31, 33554487}, // 2^20 is the second one of round 349525
	} {
		isBack(t, c.l, c.obj, c.at, c.want)
	}
}

func TestBackOfEachPlace(t *testing.T) {
	for _, l := range shapes() {
		for off, p := range walk(l, roundsOf(l, 2000)) {
			isBack(t, l, p.obj, p.at, off)
		}
		one := walk(l, 1)
		for _, rounds := range []int{1 << 10, 1 << 16, 1 << 18 / l.Count, (1<<20 - 1) / l.Count, 1 << 20 / l.Count} {
			for off, p := range one {
				obj := p.obj + rounds*l.Count
				if obj <= 1<<20 {
					isBack(t, l, obj, p.at, off+rounds*len(one))
				} else {
					isBack(t, l, obj, p.at, 0)
				}
			}
		}
	}
}

func TestBackOfWhatIsNoPlace(t *testing.T) {
	for _, l := range shapes() {
		most := len(walk(l, 1))/l.Count - 1
		for _, obj := range append(far(), -9, -4, -2, -1, 1<<20+1, 1<<20+2, 1<<20+5, 1<<21, 1<<30, 1<<32+1) {
			for _, at := range append(far(), -1, 0, 1, 5, most, most+1) {
				isBack(t, l, obj, at, 0)
			}
		}
		for _, at := range append(far(), -64, -8, -5, -2, -1, most+1, most+2, most+5, 2*most+1, 2*most+2, 64, 65, 1<<20, 1<<32+1) {
			for _, obj := range []int{0, 1, 2, 3, 100, 1<<20 - 1, 1 << 20} {
				isBack(t, l, obj, at, 0)
			}
		}
	}
}

// P12.2: Map

// x is short for a piece.
func x(obj, off, n, at int) api.Extent {
	return api.Extent{Obj: obj, Off: off, Len: n, At: at}
}

func TestMapByHand(t *testing.T) {
	// Within a unit.
	isMap(t, small, 0, 1, x(0, 0, 1, 0))
	isMap(t, small, 0, 4, x(0, 0, 4, 0))
	isMap(t, small, 9, 2, x(0, 5, 2, 0))
	isMap(t, small, 15, 1, x(1, 7, 1, 0))
	isMap(t, wide, 65, 62, x(1, 1, 62, 0))
	// Over a unit's end.
	isMap(t, small, 3, 2, x(0, 3, 1, 0), x(1, 0, 1, 1))
	isMap(t, small, 2, 10, x(0, 2, 2, 0), x(1, 0, 4, 2), x(0, 4, 4, 6))
	isMap(t, deep, 20, 12, x(2, 4, 4, 0), x(0, 8, 8, 4))
	isMap(t, wide, 63, 2, x(0, 63, 1, 0), x(1, 0, 1, 1))
	// Over an object's end.
	isMap(t, small, 14, 4, x(1, 6, 2, 0), x(2, 0, 2, 2))
	isMap(t, small, 11, 7, x(0, 7, 1, 0), x(1, 4, 4, 1), x(2, 0, 2, 5))
	isMap(t, deep, 90, 20, x(2, 26, 6, 0), x(3, 0, 8, 6), x(4, 0, 6, 14))
	isMap(t, wide, 255, 2, x(3, 63, 1, 0), x(4, 0, 1, 1))
	// Of one object after the other the pieces of one go together, but never those of two.
	isMap(t, lone, 3, 2, x(0, 3, 2, 0))
	isMap(t, lone, 0, 16, x(0, 0, 16, 0))
	isMap(t, lone, 3, 20, x(0, 3, 13, 0), x(1, 0, 7, 13))
	isMap(t, lone, 15, 18, x(0, 15, 1, 0), x(1, 0, 16, 1), x(2, 0, 1, 17))
	isMap(t, layout(3, 3, 1), 6, 12, x(0, 6, 2, 0), x(1, 0, 8, 2), x(2, 0, 2, 10))
	// Where a unit is a whole object, pieces of like places behind one another are those of other objects.
	isMap(t, layout(3, 3, 2), 0, 20, x(0, 0, 8, 0), x(1, 0, 8, 8), x(2, 0, 4, 16))
	// Up to the last byte.
	isMap(t, layout(6, 6, 1), 511, 1, x(7, 63, 1, 0))
	isMap(t, small, 510, 2, x(63, 6, 2, 0))
	isMap(t, layout(6, 3, 1), 0, 512, x(0, 0, 64, 0), x(1, 0, 64, 64), x(2, 0, 64, 128), x(3, 0, 64, 192), x(4, 0, 64, 256), x(5, 0, 64, 320), x(6, 0, 64, 384), x(7, 0, 64, 448))
	isMap(t, layout(6, 6, 3), 1, 511, x(0, 1, 63, 0), x(1, 0, 64, 63), x(2, 0, 64, 127), x(3, 0, 64, 191), x(4, 0, 64, 255), x(5, 0, 64, 319), x(6, 0, 64, 383), x(7, 0, 64, 447))
	// None.
	isMap(t, small, 0, 0)
	isMap(t, small, 5, 0)
	isMap(t, small, -1, 2)
	isMap(t, small, 4, -1)
	isMap(t, small, 512, 0)
	isMap(t, small, 512, 1)
	isMap(t, small, 511, 2)
	isMap(t, small, 1, 512)
	isMap(t, small, 0, 513)
	isMap(t, small, -1, 513)
}

func TestMapOfEachRun(t *testing.T) {
	for _, l := range shapes() {
		all := walk(l, roundsOf(l, 512))
		for off := range 512 {
			for n := 1; n <= 512-off; n++ {
				// Of those far from all edges a few will do.
				if off > 140 && n > 12 && n < 512-off-3 && (off+n)%41 != 0 {
					continue
				}
				if off <= 140 && n > 80 && n < 512-off-3 && (3*off+n)%53 != 0 {
					continue
				}
				isMap(t, l, off, n, cut(all[off:off+n])...)
			}
		}
	}
}

func TestMapOfWhatIsNoRun(t *testing.T) {
	for _, l := range shapes() {
		for off := -4; off <= 516; off++ {
			for _, n := range []int{513 - off, 514 - off, 513, 1024 - off, 0, -1, -off, -off - 1} {
				if n < 1 || off < 0 || off+n > 512 {
					isMap(t, l, off, n)
				}
			}
		}
		for _, n := range edges() {
			for _, off := range append(far(), -512, -2, -1, 512, 513, 1<<20, 1<<30) {
				isMap(t, l, off, n)
				isMap(t, l, off, -off)
				isMap(t, l, off, 512-off)
			}
			if n < 1 || n > 512 {
				for _, off := range edges() {
					isMap(t, l, off, n)
				}
			}
		}
	}
}

// P12.2: Objects

func TestObjectsByHand(t *testing.T) {
	for _, c := range []struct {
		l          api.Layout
		size, want int
	}{
		{small, 0, 0}, {small, 1, 1}, {small, 4, 1}, {small, 5, 2}, {small, 8, 2},
		// Behind a row of units no object more is begun, till all are full.
		{small, 7, 2}, {small, 9, 2}, {small, 15, 2}, {small, 16, 2}, {small, 17, 3}, {small, 20, 3}, {small, 21, 4}, {small, 32, 4}, {small, 33, 5},
		{deep, 8, 1}, {deep, 9, 2}, {deep, 23, 3}, {deep, 24, 3}, {deep, 25, 3}, {deep, 96, 3}, {deep, 97, 4}, {deep, 104, 4}, {deep, 105, 5}, {deep, 113, 6}, {deep, 121, 6},
		{lone, 1, 1}, {lone, 16, 1}, {lone, 17, 2}, {wide, 64, 1}, {wide, 65, 2}, {wide, 256, 4}, {wide, 257, 5}, {layout(6, 2, 4), 13, 4}, {layout(6, 2, 4), 256, 4}, {layout(6, 2, 4), 257, 5},
		{small, 511, 64}, {small, 512, 64}, {small, 500, 63}, {small, 501, 64}, {small, 513, 64}, {small, 1 << 30, 64}, {deep, 512, 18}, {deep, 496, 17}, {deep, 488, 16}, {deep, 489, 17}, {lone, 512, 32}, {wide, 512, 8}, {wide, 448, 7}, {layout(3, 2, 1), 512, 64},
		{small, -1, 0}, {small, -512, 0},
	} {
		isObjects(t, c.l, c.size, c.want)
	}
}

func TestObjectsOfEachSize(t *testing.T) {
	for _, l := range shapes() {
		all := walk(l, roundsOf(l, 512))
		for size := -600; size <= 1200; size++ {
			seen := map[int]int{}
			last := -1
			for _, p := range all[:between(size)] {
				seen[p.obj]++
				last = max(last, p.obj)
			}
			isObjects(t, l, size, last+1)
			if len(seen) != last+1 {
				t.Errorf("an object ahead of the last one has no bytes: %v, %d", l, size)
			}
		}
		for _, size := range edges() {
			want := 0
			for _, p := range all[:between(size)] {
				want = max(want, p.obj+1)
			}
			isObjects(t, l, size, want)
		}
	}
}

// P12.2: Bytes

func TestBytesByHand(t *testing.T) {
	for _, c := range []struct {
		l               api.Layout
		size, obj, want int
	}{
		{small, 0, 0, 0}, {small, 1, 0, 1}, {small, 1, 1, 0}, {small, 4, 0, 4}, {small, 4, 1, 0}, {small, 5, 0, 4}, {small, 5, 1, 1},
		// One byte less than a row of units, the row, one more.
		{small, 7, 0, 4}, {small, 7, 1, 3}, {small, 8, 0, 4}, {small, 8, 1, 4}, {small, 9, 0, 5}, {small, 9, 1, 4}, {small, 9, 2, 0},
		{deep, 23, 0, 8}, {deep, 23, 2, 7}, {deep, 24, 2, 8}, {deep, 25, 0, 9}, {deep, 25, 1, 8}, {deep, 25, 2, 8}, {deep, 40, 1, 16}, {deep, 41, 2, 9},
		{small, 15, 1, 7}, {small, 16, 1, 8}, {small, 17, 0, 8}, {small, 17, 1, 8}, {small, 17, 2, 1}, {small, 17, 3, 0}, {small, 27, 2, 7}, {small, 30, 3, 6},
		{lone, 15, 0, 15}, {lone, 16, 0, 16}, {lone, 17, 0, 16}, {lone, 17, 1, 1}, {lone, 20, 1, 4}, {lone, 21, 1, 5}, {wide, 100, 0, 64}, {wide, 100, 1, 36}, {wide, 100, 2, 0},
		// The last object that has bytes and the next one, of the greatest image and what is beyond it.
		{small, 512, 63, 8}, {small, 512, 64, 0}, {small, 513, 63, 8}, {small, 513, 64, 0}, {small, 511, 63, 7}, {small, 1 << 30, 64, 0}, {small, math.MaxInt, 63, 8}, {small, math.MaxInt, 64, 0},
		{deep, 512, 14, 32}, {deep, 512, 15, 16}, {deep, 512, 16, 8}, {deep, 512, 17, 8}, {deep, 512, 18, 0}, {deep, 1000, 15, 16}, {deep, 1000, 17, 8}, {deep, 1000, 18, 0}, {wide, 512, 7, 64}, {wide, 600, 8, 0},
		{small, -1, 0, 0}, {small, 100, -1, 0}, {small, 100, -2, 0}, {small, -1, -1, 0},
	} {
		isBytes(t, c.l, c.size, c.obj, c.want)
	}
}

func TestBytesOfEachObject(t *testing.T) {
	for _, l := range shapes() {
		all := walk(l, roundsOf(l, 512))
		most := len(all)/(len(walk(l, 1))/l.Count) + 4
		for size := -3; size <= 520; size++ {
			bytes := make([]int, most)
			for _, p := range all[:between(size)] {
				bytes[p.obj] = max(bytes[p.obj], p.at+1)
			}
			for obj, want := range bytes {
				isBytes(t, l, size, obj, want)
			}
			for obj := -9; obj < 0; obj++ {
				isBytes(t, l, size, obj, 0)
			}
		}
	}
}

func TestBytesOfFarNumbers(t *testing.T) {
	for _, l := range shapes() {
		all := walk(l, roundsOf(l, 512))
		for _, size := range edges() {
			bytes := map[int]int{}
			for _, p := range all[:between(size)] {
				bytes[p.obj] = max(bytes[p.obj], p.at+1)
			}
			for _, obj := range edges() {
				isBytes(t, l, size, obj, bytes[obj])
			}
		}
	}
}

func TestBytesInAllAreTheSize(t *testing.T) {
	for _, l := range shapes() {
		for size := range 513 {
			sum := 0
			for obj := range stripe.Objects(l, size) {
				n := stripe.Bytes(l, size, obj)
				if n < 1 {
					t.Errorf("P12.2: object %d of %v, %d, has %d bytes, but is one of Objects", obj, l, size, n)
				}
				sum += n
			}
			// An object's bytes begin at 0 and none is left out between, so that they are as many as Bytes tells.
			if sum != size {
				t.Errorf("P12.2: the Bytes of %v, %d are %d in all", l, size, sum)
			}
		}
	}
}

// P12.3: what follows

func TestBackOfPlaceIsTheByte(t *testing.T) {
	r := rand.New(rand.NewSource(12))
	for _, l := range shapes() {
		try := func(off int) {
			t.Helper()
			obj, at := stripe.Place(l, off)
			want := off
			if obj > 1<<20 {
				want = 0
			}
			if got := stripe.Back(l, obj, at); got != want {
				t.Errorf("P12.3: Back of Place of %v, %d: %d, not %d", l, off, got, want)
			}
		}
		for off := range 3000 {
			try(off)
			try(1<<30 - off)
			try(1<<20*len(walk(l, 1))/l.Count - 1500 + off)
		}
		for range 3000 {
			try(r.Intn(1<<30 + 1))
			try(r.Intn(1 << 26))
		}
	}
}

func TestPlaceOfBackIsThePlace(t *testing.T) {
	r := rand.New(rand.NewSource(13))
	for _, l := range shapes() {
		size := len(walk(l, 1)) / l.Count
		for i := range 4000 {
			obj, at := r.Intn(1<<20+1), r.Intn(size)
			if i < 400 {
				obj = 1<<20 - i
			}
			isPlace(t, l, stripe.Back(l, obj, at), obj, at)
		}
	}
}

func TestPiecesAreTheBytesEachOnce(t *testing.T) {
	r := rand.New(rand.NewSource(14))
	for _, l := range shapes() {
		for range 600 {
			off := r.Intn(512)
			n := 1 + r.Intn(512-off)
			next := 0
			for _, p := range stripe.Map(l, off, n) {
				if p.At != next || p.Len < 1 {
					t.Errorf("P12.3: Map of %v, %d, %d: piece %v begins at %d", l, off, n, p, next)
				}
				for k := range p.Len {
					if got := stripe.Back(l, p.Obj, p.Off+k); got != off+p.At+k {
						t.Errorf("P12.3: Map of %v, %d, %d: byte %d of piece %v is byte %d", l, off, n, k, p, got)
					}
				}
				next += p.Len
			}
			if next != n {
				t.Errorf("P12.3: the pieces of %v, %d, %d have %d bytes", l, off, n, next)
			}
		}
	}
}

func TestMapPlaceObjectsAndBytesGoTogether(t *testing.T) {
	for _, l := range shapes() {
		for size := 1; size <= 512; size++ {
			bytes := map[int]int{}
			objects := 0
			for _, p := range stripe.Map(l, 0, size) {
				bytes[p.Obj] = max(bytes[p.Obj], p.Off+p.Len)
				objects = max(objects, p.Obj+1)
				isPlace(t, l, p.At, p.Obj, p.Off)
			}
			isObjects(t, l, size, objects)
			for obj := range objects + 1 {
				isBytes(t, l, size, obj, bytes[obj])
			}
		}
	}
}

// The rules that hold everywhere

func TestExamples(t *testing.T) {
	isPlace(t, layout(3, 2, 2), 4, 1, 0)
	for _, l := range append(shapes(), crooked()...) {
		isObjects(t, l, 0, 0)
		isMap(t, l, 0, 0)
	}
}

func TestWhatIsNoShape(t *testing.T) {
	for _, l := range crooked() {
		if header.Shape(l) {
			t.Errorf("the test's own list has a Shape in it: %v", l)
		}
		for _, n := range edges() {
			isPlace(t, l, n, 0, 0)
			isBack(t, l, n, 0, 0)
			isBack(t, l, 0, n, 0)
			isBack(t, l, n, n, 0)
			isMap(t, l, 0, n)
			isMap(t, l, n, 1)
			isMap(t, l, n, n)
			isObjects(t, l, n, 0)
			isBytes(t, l, n, 0, 0)
			isBytes(t, l, 512, n, 0)
			isBytes(t, l, n, n, 0)
		}
	}
}

func TestWhichLayoutsAreTaken(t *testing.T) {
	for order := -2; order <= 9; order++ {
		for unit := -2; unit <= 9; unit++ {
			for count := -2; count <= 7; count++ {
				l := layout(order, unit, count)
				may := order >= 3 && order <= 6 && unit >= 2 && unit <= order && count >= 1 && count <= 4
				obj, _ := stripe.Place(l, 500)
				if may != (obj > 0) || may != (stripe.Back(l, 9, 1) > 0) || may != (len(stripe.Map(l, 3, 40)) > 0) || may != (stripe.Objects(l, 40) > 0) || may != (stripe.Bytes(l, 40, 0) > 0) {
					t.Errorf("P12.1, P12.2: %v is taken, or isn't, against header.Shape: %v", l, may)
				}
			}
		}
	}
}

func TestNothingPanics(t *testing.T) {
	call := func(l api.Layout, a, b int) {
		stripe.Place(l, a)
		stripe.Back(l, a, b)
		stripe.Map(l, a, b)
		stripe.Objects(l, a)
		stripe.Bytes(l, a, b)
	}
	for _, l := range append(shapes(), crooked()...) {
		for _, a := range edges() {
			for _, b := range edges() {
				call(l, a, b)
			}
		}
	}
	for _, order := range edges() {
		for _, unit := range edges() {
			for _, count := range edges() {
				call(layout(order, unit, count), 9, 5)
			}
		}
	}
}

func TestTheGreatestAndTheLeastInEveryPlace(t *testing.T) {
	for _, n := range []int{math.MinInt, math.MaxInt} {
		for _, l := range []api.Layout{layout(n, 2, 1), layout(3, n, 1), layout(3, 2, n), layout(n, n, n), layout(n, n, 1)} {
			isPlace(t, l, 5, 0, 0)
			isBack(t, l, 5, 5, 0)
			isMap(t, l, 5, 5)
			isObjects(t, l, 5, 0)
			isBytes(t, l, 5, 0, 0)
			isPlace(t, l, n, 0, 0)
			isBack(t, l, n, n, 0)
			isMap(t, l, n, n)
			isObjects(t, l, n, 0)
			isBytes(t, l, n, n, 0)
		}
		for _, l := range shapes() {
			isPlace(t, l, n, 0, 0)
			isBack(t, l, n, 1, 0)
			isBack(t, l, 1, n, 0)
			isBack(t, l, n, n, 0)
			isMap(t, l, n, 1)
			isMap(t, l, 1, n)
			isMap(t, l, n, n)
			isMap(t, l, n, -1-n)
			isBytes(t, l, 512, n, 0)
			isBytes(t, l, n, n, 0)
		}
	}
	isObjects(t, deep, math.MinInt, 0)
	isObjects(t, deep, math.MaxInt, 18)
	isBytes(t, deep, math.MinInt, 0, 0)
	isBytes(t, deep, math.MaxInt, 15, 16)
}

func TestAnswersAreNewMemory(t *testing.T) {
	for _, l := range shapes() {
		first := stripe.Map(l, 3, 200)
		want := slices.Clone(first)
		other := stripe.Map(l, 3, 200)
		first = first[:cap(first)]
		for i := range first {
			first[i] = x(-1, -1, -1, -1)
		}
		if !slices.Equal(other, want) {
			t.Errorf("R2: two answers of Map of %v share memory", l)
		}
		isMap(t, l, 3, 200, want...)
	}
}

func TestSameAgain(t *testing.T) {
	for _, l := range shapes() {
		first := stripe.Map(l, 7, 300)
		stripe.Map(wide, 0, 512)
		stripe.Bytes(small, 99, 3)
		isMap(t, l, 7, 300, first...)
	}
}
