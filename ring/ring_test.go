package ring_test

import (
	"fmt"
	"math"
	"math/rand"
	"slices"
	"testing"

	"hectograph/api"
	"hectograph/frame"
	"hectograph/ring"
)

// shape and fill are short for what they answer.
func shape(splay, sets, size int) api.Ring {
	return api.Ring{Splay: splay, Sets: sets, Size: size}
}

func fill(set int, used ...int) api.Fill {
	f := api.Fill{Set: set}
	copy(f.Used[:], used)
	return f
}

// far is numbers that are nowhere near a limit, those among them whose lowest bits are a number that may be, or which an addition or a subtraction may carry over the edge.
func far() []int {
	return []int{math.MinInt, math.MinInt + 1, math.MinInt + 4, math.MinInt + 112, math.MinInt + 512, math.MinInt + 4096, math.MinInt + 1<<30, math.MinInt + 1<<40, -1 << 40, -1 << 32, math.MinInt32, -1 << 30, -4096, -512, -112, 1 << 41, 1<<41 + 1, 1<<48 + 1, 1 << 62, 1<<62 + 4, 1<<62 + 512, math.MaxInt - 1<<40, math.MaxInt - 1<<30, math.MaxInt - 4096, math.MaxInt - 112, math.MaxInt - 1, math.MaxInt}
}

// edges is numbers at all edges that the document names, just beyond them, and far off.
func edges() []int {
	return append(far(), -2, -1, 0, 1, 2, 3, 4, 5, 7, 8, 9, 22, 23, 89, 90, 91, 92, 112, 255, 256, 257, 258, 260, 511, 512, 513, 514, 4095, 4096, 4097, 1<<16+1, 1<<16+4, 1<<16+512, 1<<30-2, 1<<30-1, 1<<30, 1<<30+1, 1<<30+2, 1<<32+1, 1<<32+4, 1<<32+512, 1<<40-1, 1<<40, 1<<40+1)
}

// shapes is rings that are Right, the edges among them.
func shapes() []api.Ring {
	var l []api.Ring
	for splay := 1; splay <= 4; splay++ {
		for sets := 4; sets <= 8; sets++ {
			for _, size := range []int{512, 513, 600, 700, 4095, 4096} {
				l = append(l, shape(splay, sets, size))
			}
		}
	}
	return l
}

// crooked is rings that aren't Right: each number at its edge and far off, alone and beside others.
func crooked() []api.Ring {
	l := []api.Ring{{}, shape(512, 4, 1), shape(4, 1, 512), shape(1, 512, 4), shape(8, 4, 512), shape(0, 3, 511), shape(5, 9, 4097), shape(-1, -4, -512)}
	for _, n := range append(far(), -4, -1, 0, 5, 6, 8, 256+1, 1<<16+1, 1<<32+1) {
		l = append(l, shape(n, 4, 512), shape(n, 8, 4096))
	}
	for _, n := range append(far(), -8, -4, -1, 0, 1, 2, 3, 9, 10, 16, 256+4, 1<<16+4, 1<<32+4) {
		l = append(l, shape(1, n, 512), shape(4, n, 4096))
	}
	for _, n := range append(far(), -512, -1, 0, 1, 256, 510, 511, 4097, 4098, 8192, 1<<16+512, 1<<32+512) {
		l = append(l, shape(1, 4, n), shape(4, 8, n))
	}
	return l
}

// legalShape, legalFill and legal are what the document says of what is handed in, limit by limit.
func legalShape(c api.Ring) bool {
	switch c.Splay {
	case 1, 2, 3, 4:
	default:
		return false
	}
	switch c.Sets {
	case 4, 5, 6, 7, 8:
	default:
		return false
	}
	return c.Size >= 512 && c.Size <= 4096
}

func legalFill(c api.Ring, f api.Fill) bool {
	for _, n := range f.Used {
		if n < 0 || n > c.Size {
			return false
		}
	}
	return f.Set >= 0 && f.Set <= 1073741823
}

func legal(c api.Ring, f api.Fill, seq, n int) bool {
	return legalShape(c) && legalFill(c, f) && seq >= 1 && seq <= 1099511627776 && n >= 1 && n <= 90
}

// laid is what an entry that may be laid comes to, by hand.
func laid(c api.Ring, f api.Fill, seq, n int) (api.Fill, api.Place, bool) {
	obj := seq - seq/c.Splay*c.Splay
	used := f.Used[obj] + 22 + n
	if used <= c.Size {
		f.Used[obj] = used
		return f, api.Place{Set: f.Set, Obj: obj}, false
	}
	next := api.Fill{Set: f.Set + 1}
	next.Used[obj] = 22 + n
	return next, api.Place{Set: f.Set + 1, Obj: obj}, true
}

// rowed is what Sets and Need should answer of a row that begins behind f with the number seq, by hand; false, if an entry may not be laid.
func rowed(c api.Ring, f api.Fill, seq int, sizes []int) ([]api.Place, int, bool) {
	var l []api.Place
	begun := 0
	for i, n := range sizes {
		if !legal(c, f, seq+i, n) {
			return nil, 0, false
		}
		var p api.Place
		var next bool
		f, p, next = laid(c, f, seq+i, n)
		if next {
			begun++
		}
		l = append(l, p)
	}
	return l, begun, true
}

// puts fails the test, unless Put answers as by hand.
func puts(t *testing.T, c api.Ring, f api.Fill, seq, n int) {
	t.Helper()
	var wantFill api.Fill
	var wantPlace api.Place
	var wantNext bool
	if legal(c, f, seq, n) {
		wantFill, wantPlace, wantNext = laid(c, f, seq, n)
	}
	gotFill, gotPlace, gotNext := ring.Put(c, f, seq, n)
	if gotFill != wantFill || gotPlace != wantPlace || gotNext != wantNext {
		t.Errorf("P10.1: Put of %v, %v, %d, %d: %v, %v, %v, not %v, %v, %v", c, f, seq, n, gotFill, gotPlace, gotNext, wantFill, wantPlace, wantNext)
	}
}

// refuses fails the test, unless Put refuses, and answers nothing beside that, and Need goes by it.
func refuses(t *testing.T, c api.Ring, f api.Fill, seq, n int) {
	t.Helper()
	gotFill, gotPlace, gotNext := ring.Put(c, f, seq, n)
	if gotFill != (api.Fill{}) || gotPlace != (api.Place{}) || gotNext {
		t.Errorf("P10.1: Put of %v, %v, %d, %d is not refused: %v, %v, %v", c, f, seq, n, gotFill, gotPlace, gotNext)
	}
	if got := ring.Need(c, f, seq, n); got != 0 {
		t.Errorf("P10.2: Need of %v, %v, %d, %d, which Put refuses: %d", c, f, seq, n, got)
	}
}

// isNum fails the test, unless Num answers want.
func isNum(t *testing.T, c api.Ring, p api.Place, want int) {
	t.Helper()
	if got := ring.Num(c, p); got != want {
		t.Errorf("P10.1: Num of %v, %v: %d, not %d", c, p, got, want)
	}
}

// isSets fails the test, unless Sets answers just those places.
func isSets(t *testing.T, c api.Ring, at int, sizes []int, want []api.Place) {
	t.Helper()
	if got := ring.Sets(c, at, sizes...); !slices.Equal(got, want) {
		t.Errorf("P10.2: Sets of %v, %d, %.60v: %.60v, not %.60v", c, at, fmt.Sprint(sizes), fmt.Sprint(got), fmt.Sprint(want))
	}
}

// isNeed fails the test, unless Need answers want.
func isNeed(t *testing.T, c api.Ring, f api.Fill, seq int, sizes []int, want int) {
	t.Helper()
	if got := ring.Need(c, f, seq, sizes...); got != want {
		t.Errorf("P10.2: Need of %v, %v, %d, %.60v: %d, not %d", c, f, seq, fmt.Sprint(sizes), got, want)
	}
}

// many is so many sizes, all alike.
func many(count, size int) []int {
	l := make([]int, count)
	for i := range l {
		l[i] = size
	}
	return l
}

// places is a list of those places, two numbers each.
func places(l ...int) []api.Place {
	var out []api.Place
	for i := 0; i < len(l); i += 2 {
		out = append(out, api.Place{Set: l[i], Obj: l[i+1]})
	}
	return out
}

// P10.1: Right

func TestRight(t *testing.T) {
	for _, c := range shapes() {
		if !ring.Right(c) {
			t.Errorf("P10.1: %v isn't Right", c)
		}
	}
	for _, c := range crooked() {
		if ring.Right(c) {
			t.Errorf("P10.1: %v is Right", c)
		}
	}
}

func TestRightOfEachNumber(t *testing.T) {
	for splay := -9; splay <= 20; splay++ {
		for sets := -9; sets <= 40; sets++ {
			for _, size := range []int{-512, -1, 0, 1, 510, 511, 512, 513, 2048, 4095, 4096, 4097, 4098} {
				want := splay >= 1 && splay <= 4 && sets >= 4 && sets <= 8 && size >= 512 && size <= 4096
				if got := ring.Right(shape(splay, sets, size)); got != want {
					t.Errorf("P10.1: Right of %d, %d, %d: %v", splay, sets, size, got)
				}
			}
		}
	}
	for size := -5000; size <= 9000; size++ {
		if got := ring.Right(shape(2, 5, size)); got != (size >= 512 && size <= 4096) {
			t.Errorf("P10.1: Right of a Size of %d: %v", size, got)
		}
	}
}

func TestRightOfAllEdges(t *testing.T) {
	l := edges()
	for _, splay := range l {
		for _, sets := range l {
			for _, size := range l {
				c := shape(splay, sets, size)
				if got := ring.Right(c); got != legalShape(c) {
					t.Errorf("P10.1: Right of %v: %v", c, got)
				}
			}
		}
	}
}

// P10.1: Put

func TestPutByHand(t *testing.T) {
	two := shape(2, 4, 512)
	full := fill(3, 489, 490)
	for _, c := range []struct {
		c      api.Ring
		f      api.Fill
		seq, n int
		want   api.Fill
		place  api.Place
		next   bool
	}{
		{two, api.Fill{}, 1, 1, fill(0, 0, 23), api.Place{Obj: 1}, false},
		{two, api.Fill{}, 2, 1, fill(0, 23), api.Place{}, false},
		{two, api.Fill{}, 2, 90, fill(0, 112), api.Place{}, false},
		{two, fill(0, 112), 3, 2, fill(0, 112, 24), api.Place{Obj: 1}, false},
		{shape(4, 8, 4096), fill(7, 1, 2, 3, 4), 7, 10, fill(7, 1, 2, 3, 36), api.Place{Set: 7, Obj: 3}, false},
		{shape(4, 8, 4096), fill(7, 1, 2, 3, 4), 8, 10, fill(7, 33, 2, 3, 4), api.Place{Set: 7}, false},
		{shape(3, 8, 4096), fill(7, 1, 2, 3, 4), 8, 10, fill(7, 1, 2, 35, 4), api.Place{Set: 7, Obj: 2}, false},
		{shape(1, 8, 4096), fill(7, 1, 2, 3, 4), 8, 10, fill(7, 33, 2, 3, 4), api.Place{Set: 7}, false},
		// It just fits.
		{two, full, 2, 1, fill(3, 512, 490), api.Place{Set: 3}, false},
		{two, fill(3, 490, 489), 3, 1, fill(3, 490, 512), api.Place{Set: 3, Obj: 1}, false},
		{shape(1, 4, 4096), fill(0, 3984), 5, 90, fill(0, 4096), api.Place{}, false},
		// It is one byte too long, and all that was behind the set ahead is gone.
		{two, full, 2, 2, fill(4, 24), api.Place{Set: 4}, true},
		{two, full, 3, 1, fill(4, 0, 23), api.Place{Set: 4, Obj: 1}, true},
		{shape(1, 4, 4096), fill(0, 3985), 5, 90, fill(1, 112), api.Place{Set: 1}, true},
		{shape(4, 4, 512), fill(9, 512, 5, 6, 7), 4, 3, fill(10, 25), api.Place{Set: 10}, true},
		{shape(4, 4, 512), fill(9, 512, 5, 491, 7), 6, 3, fill(10, 0, 0, 25), api.Place{Set: 10, Obj: 2}, true},
		// Objects behind Splay count for nothing, but they are kept as long as the set is.
		{two, fill(0, 0, 0, 9, 512), 1, 1, fill(0, 0, 23, 9, 512), api.Place{Obj: 1}, false},
		{two, fill(0, 0, 512, 9, 512), 1, 1, fill(1, 0, 23), api.Place{Set: 1, Obj: 1}, true},
		// The last sets.
		{two, fill(1<<30-2, 512), 4, 1, fill(1<<30-1, 23), api.Place{Set: 1<<30 - 1}, true},
		{two, fill(1<<30 - 1), 4, 1, fill(1<<30-1, 23), api.Place{Set: 1<<30 - 1}, false},
		{two, fill(1<<30-1, 512), 4, 1, fill(1<<30, 23), api.Place{Set: 1 << 30}, true},
		// The last numbers: 2^40 is 1 modulo 3.
		{shape(3, 4, 512), api.Fill{}, 1 << 40, 1, fill(0, 0, 23), api.Place{Obj: 1}, false},
		{shape(3, 4, 512), api.Fill{}, 1<<40 - 1, 1, fill(0, 23), api.Place{}, false},
		{shape(4, 4, 512), api.Fill{}, 1<<40 - 1, 1, fill(0, 0, 0, 0, 23), api.Place{Obj: 3}, false},
	} {
		f, p, next := ring.Put(c.c, c.f, c.seq, c.n)
		if f != c.want || p != c.place || next != c.next {
			t.Errorf("P10.1: Put of %v, %v, %d, %d: %v, %v, %v, not %v, %v, %v", c.c, c.f, c.seq, c.n, f, p, next, c.want, c.place, c.next)
		}
		if !legal(c.c, c.f, c.seq, c.n) {
			t.Errorf("the test's own legal refuses %v, %v, %d, %d", c.c, c.f, c.seq, c.n)
		}
	}
}

func TestPutOfEachUsed(t *testing.T) {
	for _, c := range shapes() {
		for seq := 1; seq <= 2*c.Splay; seq++ {
			for _, n := range []int{1, 2, 45, 89, 90} {
				s := 22 + n
				for _, used := range []int{-1, 0, 1, s, c.Size - s - 1, c.Size - s, c.Size - s + 1, c.Size - 1, c.Size, c.Size + 1} {
					for at := range api.MaxSplay {
						f := fill(5, 7, 7, 7, 7)
						f.Used[at] = used
						puts(t, c, f, seq, n)
					}
					puts(t, c, fill(5, used, used, used, used), seq, n)
				}
			}
		}
	}
}

func TestPutOfEachSize(t *testing.T) {
	for _, c := range []api.Ring{shape(1, 4, 512), shape(2, 4, 512), shape(4, 8, 4096)} {
		for n := -300; n <= 300; n++ {
			for _, seq := range []int{1, 4} {
				for _, used := range []int{0, c.Size - 112, c.Size - 67, c.Size - 23, c.Size - 22, c.Size} {
					puts(t, c, fill(2, used, used, used, used), seq, n)
				}
			}
		}
	}
}

func TestPutGoesByFramesSize(t *testing.T) {
	for n := 1; n <= api.MaxPayload; n++ {
		b, why := frame.Lay(api.Entry{Tag: 1, Seq: 1, Data: make([]byte, n)})
		f, _, _ := ring.Put(shape(1, 4, 512), api.Fill{}, 1, n)
		if why != api.OK || f.Used[0] != len(b) || f.Used[0] != frame.Size(n) {
			t.Errorf("P10.1: an entry of %d bytes has %d, its frame %d", n, f.Used[0], len(b))
		}
	}
}

func TestPutOfEachNumber(t *testing.T) {
	for splay := 1; splay <= 4; splay++ {
		c := shape(splay, 5, 600)
		for seq := -20; seq <= 300; seq++ {
			puts(t, c, fill(1, 590, 0, 590, 0), seq, 1)
		}
		for back := -20; back <= 20; back++ {
			puts(t, c, fill(1, 590, 0, 590, 0), api.MaxSeq-back, 1)
		}
		for _, seq := range edges() {
			puts(t, c, fill(1, 0, 590, 0, 590), seq, 90)
		}
		for set := -20; set <= 300; set++ {
			puts(t, c, fill(set, 590, 0, 590, 0), 3, 90)
		}
		for back := -20; back <= 20; back++ {
			puts(t, c, fill(1<<30-back, 590, 0, 590, 0), 3, 90)
			puts(t, c, fill(1<<30-back, 0, 590, 0, 590), 3, 90)
		}
		for _, set := range edges() {
			puts(t, c, fill(set), 3, 90)
		}
	}
}

func TestPutOfWhatMayNotBeLaid(t *testing.T) {
	for _, c := range crooked() {
		refuses(t, c, api.Fill{}, 1, 1)
		refuses(t, c, fill(3, 9, 9, 9, 9), 2, 90)
		refuses(t, c, fill(3, 512, 512, 512, 512), 4, 90)
	}
	for _, c := range shapes() {
		for _, set := range append(far(), -2, -1, 1<<30, 1<<30+1, 1<<31, 1<<32, 1<<32+5) {
			refuses(t, c, fill(set), 1, 1)
			refuses(t, c, fill(set, c.Size, c.Size, c.Size, c.Size), 1, 1)
		}
		for _, seq := range append(far(), -2, -1, 0, 1<<40+1, 1<<40+2) {
			refuses(t, c, api.Fill{}, seq, 1)
			refuses(t, c, fill(4, c.Size, c.Size, c.Size, c.Size), seq, 1)
		}
		for _, n := range append(far(), -23, -22, -21, -1, 0, 91, 92, 128, 256, 257, 1<<16+1, 1<<32+1) {
			refuses(t, c, api.Fill{}, 1, n)
			refuses(t, c, fill(4, c.Size, c.Size, c.Size, c.Size), 1, n)
		}
	}
}

func TestPutOfUsedBeyond(t *testing.T) {
	for splay := 1; splay <= 4; splay++ {
		c := shape(splay, 4, 600)
		for at := range api.MaxSplay {
			for _, used := range append(far(), -23, -1, 601, 602, 4096, 1<<32, 1<<32+100) {
				for seq := 1; seq <= 4; seq++ {
					f := fill(2, 10, 20, 30, 40)
					f.Used[at] = used
					refuses(t, c, f, seq, 1)
					f = fill(2, 600, 600, 600, 600)
					f.Used[at] = used
					refuses(t, c, f, seq, 90)
				}
			}
		}
	}
}

// P10.1: Num

func TestNumByHand(t *testing.T) {
	two := shape(2, 4, 512)
	for _, c := range []struct {
		c             api.Ring
		set, obj, num int
	}{
		{two, 5, 1, 3}, {two, 0, 0, 0}, {two, 0, 1, 1}, {two, 1, 0, 2}, {two, 3, 1, 7}, {two, 4, 0, 0}, {two, 7, 1, 7}, {two, 8, 1, 1},
		{two, 1 << 30, 0, 0}, {two, 1 << 30, 1, 1}, {two, 1<<30 - 1, 1, 7}, {two, 1<<30 - 2, 0, 4},
		{shape(4, 8, 4096), 7, 3, 31}, {shape(4, 8, 4096), 15, 3, 31}, {shape(4, 8, 4096), 13, 2, 22}, {shape(1, 4, 512), 7, 0, 3},
		{shape(3, 5, 600), 9, 2, 14}, {shape(3, 5, 600), 1 << 30, 1, 13}, {shape(1, 7, 600), 1 << 30, 0, 1},
	} {
		isNum(t, c.c, api.Place{Set: c.set, Obj: c.obj}, c.num)
	}
}

func TestNumOfEachPlace(t *testing.T) {
	for _, c := range shapes() {
		for obj := -5; obj <= 9; obj++ {
			num, set := obj, 0
			if obj < 0 || obj >= c.Splay {
				num = 0
			}
			for i := range 50 {
				isNum(t, c, api.Place{Set: i, Obj: obj}, num)
				isNum(t, c, api.Place{Set: -1 - i, Obj: obj}, 0)
				// The numbers come round again where the sets do.
				if set++; set == c.Sets {
					set = 0
				}
				if obj >= 0 && obj < c.Splay {
					num = set*c.Splay + obj
				}
			}
		}
	}
}

func TestNumOfWhatIsNoPlace(t *testing.T) {
	for _, c := range crooked() {
		for _, p := range places(0, 0, 1, 0, 5, 1, 7, 3, 1<<30, 0) {
			isNum(t, c, p, 0)
		}
	}
	for _, c := range shapes() {
		for _, set := range append(far(), -9, -2, -1, 1<<30+1, 1<<30+2, 1<<31+1, 1<<32+1) {
			isNum(t, c, api.Place{Set: set}, 0)
			isNum(t, c, api.Place{Set: set, Obj: c.Splay - 1}, 0)
		}
		for _, obj := range append(far(), -4, -2, -1, c.Splay, c.Splay+1, 4, 8, 256, 1<<16, 1<<32, 1<<32+1) {
			isNum(t, c, api.Place{Obj: obj}, 0)
			isNum(t, c, api.Place{Set: 5, Obj: obj}, 0)
		}
	}
}

func TestNumIsEachObjectOnce(t *testing.T) {
	for _, c := range shapes() {
		for _, first := range []int{0, 1, 3, 1000003, 1<<30 - c.Sets + 1} {
			seen := make([]bool, c.Sets*c.Splay)
			for set := first; set < first+c.Sets; set++ {
				for obj := range c.Splay {
					n := ring.Num(c, api.Place{Set: set, Obj: obj})
					if n < 0 || n >= len(seen) || seen[n] {
						t.Fatalf("P10.1: Num of %v, %d, %d: %d, which is another one's or none", c, set, obj, n)
					}
					seen[n] = true
				}
			}
		}
	}
}

// P10.2: Sets, Need

func TestSetsByHand(t *testing.T) {
	one, two := shape(1, 4, 512), shape(2, 4, 512)
	for _, c := range []struct {
		c     api.Ring
		at    int
		sizes []int
		want  []api.Place
	}{
		{two, 0, nil, nil},
		{two, 0, []int{1}, places(0, 1)},
		{two, 1, []int{1}, places(0, 0)},
		{two, 0, []int{1, 1, 1}, places(0, 1, 0, 0, 0, 1)},
		{shape(4, 8, 4096), 6, []int{1, 2, 3, 4, 5}, places(0, 3, 0, 0, 0, 1, 0, 2, 0, 3)},
		{shape(3, 8, 4096), 6, []int{1, 2, 3, 4, 5}, places(0, 1, 0, 2, 0, 0, 0, 1, 0, 2)},
		// 4 of 112 and one of 64 are 512.
		{one, 4, []int{90, 90, 90, 90, 42, 1}, places(0, 0, 0, 0, 0, 0, 0, 0, 0, 0, 1, 0)},
		{one, 4, []int{90, 90, 90, 90, 43, 1}, places(0, 0, 0, 0, 0, 0, 0, 0, 1, 0, 1, 0)},
		// Object 1 is full: object 0 of that set gets nothing more either.
		{two, 0, []int{90, 1, 90, 1, 90, 1, 90, 1, 90, 1}, places(0, 1, 0, 0, 0, 1, 0, 0, 0, 1, 0, 0, 0, 1, 0, 0, 1, 1, 1, 0)},
		{one, 0, many(9, 90), places(0, 0, 0, 0, 0, 0, 0, 0, 1, 0, 1, 0, 1, 0, 1, 0, 2, 0)},
		{one, api.MaxSeq - 5, many(5, 90), places(0, 0, 0, 0, 0, 0, 0, 0, 1, 0)},
		{two, api.MaxSeq - 1, []int{1}, places(0, 0)},
		{shape(3, 4, 512), api.MaxSeq - 1, []int{90}, places(0, 1)},
	} {
		isSets(t, c.c, c.at, c.sizes, c.want)
	}
}

func TestNeedByHand(t *testing.T) {
	one, two := shape(1, 4, 512), shape(2, 4, 512)
	for _, c := range []struct {
		c     api.Ring
		f     api.Fill
		seq   int
		sizes []int
		want  int
	}{
		{one, api.Fill{}, 1, nil, 0},
		{one, fill(9, 512), 1, nil, 0},
		{one, api.Fill{}, 1, []int{90}, 0},
		{one, api.Fill{}, 1, many(4, 90), 0},
		{one, api.Fill{}, 1, many(5, 90), 1},
		{one, api.Fill{}, 1, many(8, 90), 1},
		{one, api.Fill{}, 1, many(9, 90), 2},
		{one, api.Fill{}, 1, many(40, 90), 9},
		{one, api.Fill{}, 1, append(many(4, 90), 42), 0},
		{one, api.Fill{}, 1, append(many(4, 90), 43), 1},
		{one, fill(9, 490), 1, []int{1}, 1},
		{one, fill(9, 489), 1, []int{1}, 0},
		// Of a Fill that is full.
		{one, fill(0, 512), 1, []int{1}, 1},
		{one, fill(9, 512), 1, many(8, 90), 2},
		{two, fill(9, 512, 0), 1, []int{1}, 0},
		{two, fill(9, 512, 0), 1, []int{1, 1}, 1},
		{two, fill(9, 512, 0), 2, []int{1}, 1},
		{two, fill(9, 512, 512), 2, []int{1, 1, 1, 1}, 1},
		{two, fill(9, 512, 512, 512, 512), 1, many(8, 90), 1},
		{two, fill(9, 512, 512, 512, 512), 1, many(9, 90), 2},
		{two, fill(9, 0, 0, 512, 512), 1, many(8, 90), 0},
		{shape(4, 8, 4096), fill(3, 4096, 4096, 4096, 4096), 5, many(4*36, 90), 1},
		{shape(4, 8, 4096), fill(3, 4096, 4096, 4096, 4096), 5, many(4*36+1, 90), 2},
		// Behind the last set nothing is laid, not even what fits.
		{one, fill(1<<30-1, 512), 1, []int{1}, 1},
		{one, fill(1<<30-1, 512), 1, []int{1, 1}, 0},
		{one, fill(1<<30-2, 512), 1, []int{1, 1}, 1},
		{one, fill(1<<30-2, 512), 1, many(5, 90), 2},
		{one, fill(1<<30-2, 512), 1, many(6, 90), 0},
		// Behind the last number too.
		{one, fill(9, 512), api.MaxSeq, []int{1}, 1},
		{one, fill(9, 512), api.MaxSeq, []int{1, 1}, 0},
		{one, fill(9, 512), api.MaxSeq - 1, []int{1, 1}, 1},
	} {
		isNeed(t, c.c, c.f, c.seq, c.sizes, c.want)
	}
}

// atEachPlace is sizes of so many entries, all of them right but one, that one at each place in turn.
func atEachPlace(count, right, wrong int) [][]int {
	var l [][]int
	for i := range count {
		sizes := many(count, right)
		sizes[i] = wrong
		l = append(l, sizes)
	}
	return l
}

func TestSetsAndNeedOfOneThatIsRefused(t *testing.T) {
	full := fill(2, 512, 512, 512, 512)
	for _, c := range []api.Ring{shape(1, 4, 512), shape(2, 4, 512), shape(4, 8, 4096)} {
		for _, wrong := range append(far(), -23, -22, -1, 0, 91, 92, 256+1, 1<<32+1) {
			for _, sizes := range atEachPlace(7, 90, wrong) {
				isSets(t, c, 0, sizes, nil)
				isNeed(t, c, full, 1, sizes, 0)
			}
			isSets(t, c, 3, []int{wrong}, nil)
			isNeed(t, c, full, 3, []int{wrong}, 0)
		}
	}
}

func TestSetsAndNeedOfEachNumber(t *testing.T) {
	full := fill(2, 512, 512, 512, 512)
	for _, c := range []api.Ring{shape(1, 4, 512), shape(3, 4, 512), shape(4, 8, 4096)} {
		for _, count := range []int{0, 1, 2, 3, 9} {
			sizes := many(count, 90)
			for back := -12; back <= 12; back++ {
				for _, at := range []int{-back, api.MaxSeq - back} {
					l, _, _ := rowed(c, api.Fill{}, at+1, sizes)
					isSets(t, c, at, sizes, l)
					_, n, _ := rowed(c, full, at, sizes)
					isNeed(t, c, full, at, sizes, n)
				}
			}
			for _, at := range append(far(), -1) {
				isSets(t, c, at, sizes, nil)
				isNeed(t, c, full, at, sizes, 0)
			}
		}
		isSets(t, c, api.MaxSeq, []int{1}, nil)
		isSets(t, c, api.MaxSeq-2, []int{1, 1, 1}, nil)
		isNeed(t, c, full, api.MaxSeq+1, []int{1}, 0)
		isNeed(t, c, full, 0, []int{1}, 0)
	}
}

func TestSetsAndNeedOfCrookedRings(t *testing.T) {
	for _, c := range crooked() {
		for _, sizes := range [][]int{nil, {1}, {90, 90}, many(9, 90)} {
			isSets(t, c, 0, sizes, nil)
			isSets(t, c, 7, sizes, nil)
			isNeed(t, c, api.Fill{}, 1, sizes, 0)
			isNeed(t, c, fill(3, 512, 512, 512, 512), 1, sizes, 0)
		}
	}
}

func TestNeedOfAFillThatMayNotBe(t *testing.T) {
	c := shape(2, 4, 600)
	for _, sizes := range [][]int{nil, {1}, many(30, 90)} {
		for _, n := range append(far(), -2, -1, 601, 4096) {
			for at := range api.MaxSplay {
				f := fill(3, 600, 600, 600, 600)
				f.Used[at] = n
				isNeed(t, c, f, 1, sizes, 0)
			}
		}
		for _, n := range append(far(), -2, -1, 1<<30, 1<<30+1) {
			isNeed(t, c, fill(n), 1, sizes, 0)
			isNeed(t, c, fill(n, 600, 600, 600, 600), 1, sizes, 0)
		}
	}
}

func TestSetsAndNeedArePutByPut(t *testing.T) {
	r := rand.New(rand.NewSource(1))
	for range 3000 {
		c := shape(1+r.Intn(4), 4+r.Intn(5), 512+r.Intn(200))
		at := r.Intn(1000)
		sizes := drawn(r, r.Intn(80))
		l, _, _ := rowed(c, api.Fill{}, at+1, sizes)
		isSets(t, c, at, sizes, l)
		f := fill(r.Intn(100))
		for i := range f.Used {
			f.Used[i] = r.Intn(c.Size + 1)
		}
		_, n, _ := rowed(c, f, at+1, sizes)
		isNeed(t, c, f, at+1, sizes, n)
		for i, n := range sizes {
			puts(t, c, f, at+1+i, n)
			f, _, _ = ring.Put(c, f, at+1+i, n)
		}
	}
}

// drawn is so many sizes that may be, many of them the least or the greatest one.
func drawn(r *rand.Rand, count int) []int {
	l := make([]int, count)
	for i := range l {
		switch r.Intn(4) {
		case 0:
			l[i] = 1
		case 1:
			l[i] = 90
		default:
			l[i] = 1 + r.Intn(90)
		}
	}
	return l
}

// P10.3

func TestEntriesOfASet(t *testing.T) {
	r := rand.New(rand.NewSource(2))
	for range 500 {
		c := shape(1+r.Intn(4), 4+r.Intn(5), 512+r.Intn(900))
		at := r.Intn(100)
		if r.Intn(4) == 0 {
			at = api.MaxSeq - 400
		}
		sizes := drawn(r, r.Intn(400))
		l := ring.Sets(c, at, sizes...)
		if len(l) != len(sizes) {
			t.Fatalf("P10.2: %d places of %d entries", len(l), len(sizes))
		}
		// Bytes of each object, the entries' own frames.
		used := map[api.Place]int{}
		last := 0
		for i, p := range l {
			seq := at + 1 + i
			b, _ := frame.Lay(api.Entry{Tag: 1, Seq: seq, Data: make([]byte, sizes[i])})
			if used[p] += len(b); used[p] > c.Size {
				t.Fatalf("P10.3: %v of %v has %d bytes", p, c, used[p])
			}
			if p.Set != last && p.Set != last+1 {
				t.Fatalf("P10.3: %d lies in the set %d, the one ahead of it in %d", seq, p.Set, last)
			}
			if p.Set == last+1 && used[api.Place{Set: last, Obj: p.Obj}]+len(b) <= c.Size {
				t.Fatalf("P10.1: %d begins the set %d, but it went into %d", seq, p.Set, last)
			}
			if p.Obj != seq%c.Splay {
				t.Fatalf("P10.1: %d lies in the object %d of %d", seq, p.Obj, c.Splay)
			}
			last = p.Set
		}
		if n := ring.Need(c, api.Fill{}, at+1, sizes...); n != last {
			t.Fatalf("P10.2: Need %d, but the last set is %d", n, last)
		}
	}
}

func TestFillIsWhatLiesThere(t *testing.T) {
	r := rand.New(rand.NewSource(3))
	for range 200 {
		c := shape(1+r.Intn(4), 4+r.Intn(5), 512+r.Intn(900))
		var f api.Fill
		objects := map[api.Place]int{}
		for seq := 1; seq <= 300; seq++ {
			n := 1 + r.Intn(api.MaxPayload)
			ahead := f
			next := false
			var p api.Place
			f, p, next = ring.Put(c, f, seq, n)
			objects[p] += 22 + n
			if next != (f.Set > ahead.Set) || p.Set != f.Set {
				t.Fatalf("P10.1: Put behind %v: %v, %v, %v", ahead, f, p, next)
			}
			for obj, used := range f.Used {
				if used != objects[api.Place{Set: f.Set, Obj: obj}] || used > c.Size {
					t.Fatalf("P10.3: behind %d %v tells %d of the object %d", seq, f, used, obj)
				}
			}
		}
	}
}

// The rules that hold everywhere

func TestExamples(t *testing.T) {
	if ring.Right(api.Ring{}) {
		t.Error("nothing is Right")
	}
	isSets(t, shape(2, 4, 512), 0, nil, nil)
	isNum(t, shape(2, 4, 512), api.Place{Set: 5, Obj: 1}, 3)
}

func TestNothingPanics(t *testing.T) {
	r := rand.New(rand.NewSource(4))
	l := edges()
	pick := func() int { return l[r.Intn(len(l))] }
	for range 200000 {
		c := shape(pick(), pick(), pick())
		if r.Intn(2) == 0 {
			c = shape(1+r.Intn(4), 4+r.Intn(5), 512+r.Intn(3585))
		}
		f := fill(pick(), r.Intn(513), r.Intn(513), r.Intn(513), r.Intn(513))
		if r.Intn(3) == 0 {
			f.Used[r.Intn(4)] = pick()
		}
		seq, n := pick(), pick()
		puts(t, c, f, seq, n)
		sizes := drawn(r, r.Intn(6))
		if r.Intn(2) == 0 {
			sizes = append(sizes, n)
		}
		places, _, _ := rowed(c, api.Fill{}, seq+1, sizes)
		isSets(t, c, seq, sizes, places)
		_, more, _ := rowed(c, f, seq, sizes)
		isNeed(t, c, f, seq, sizes, more)
		want := 0
		if legalShape(c) && seq >= 0 && seq <= 1<<30 && n >= 0 && n < c.Splay {
			want = seq%c.Sets*c.Splay + n
		}
		isNum(t, c, api.Place{Set: seq, Obj: n}, want)
	}
}

func TestTheGreatestAndTheLeastInEveryPlace(t *testing.T) {
	for _, n := range []int{math.MinInt, math.MaxInt} {
		c, f := shape(2, 4, 512), fill(1, 512, 512, 512, 512)
		for _, odd := range []api.Ring{shape(n, 4, 512), shape(2, n, 512), shape(2, 4, n), shape(n, n, n)} {
			if ring.Right(odd) {
				t.Errorf("P10.1: %v is Right", odd)
			}
			refuses(t, odd, f, 1, 1)
			isNum(t, odd, api.Place{Set: 1, Obj: 1}, 0)
			isSets(t, odd, 0, []int{1}, nil)
		}
		for _, odd := range []api.Fill{fill(n), fill(1, n), fill(1, 0, n), fill(1, 0, 0, n), fill(1, 0, 0, 0, n), fill(n, n, n, n, n)} {
			refuses(t, c, odd, 1, 1)
		}
		refuses(t, c, f, n, 1)
		refuses(t, c, f, 1, n)
		refuses(t, shape(n, n, n), fill(n, n, n, n, n), n, n)
		isNum(t, c, api.Place{Set: n, Obj: 1}, 0)
		isNum(t, c, api.Place{Set: 1, Obj: n}, 0)
		isNum(t, c, api.Place{Set: n, Obj: n}, 0)
		isSets(t, c, n, []int{1, 1}, nil)
		isSets(t, c, n, []int{n, n}, nil)
		isNeed(t, c, f, n, []int{1, 1}, 0)
		isNeed(t, c, f, n, nil, 0)
	}
}

func TestLongRows(t *testing.T) {
	c := shape(4, 8, 512)
	sizes := many(400000, 90)
	l := ring.Sets(c, 0, sizes...)
	// 4 an object, 16 a set.
	for i, p := range l {
		if p != (api.Place{Set: i / 16, Obj: (i + 1) % 4}) {
			t.Fatalf("P10.2: the place of %d: %v", i+1, p)
		}
	}
	if len(l) != len(sizes) {
		t.Errorf("P10.2: %d places", len(l))
	}
	isNeed(t, c, api.Fill{}, 1, sizes, 24999)
	sizes[len(sizes)-1] = 0
	isSets(t, c, 0, sizes, nil)
	isNeed(t, c, api.Fill{}, 1, sizes, 0)
}

func TestNothingHandedInIsChanged(t *testing.T) {
	room := []int{90, 90, 90, 90, 90, 7, 8, 9}
	sizes := room[:5]
	c := shape(1, 4, 512)
	ring.Sets(c, 0, sizes...)
	ring.Sets(c, -1, sizes...)
	ring.Need(c, api.Fill{}, 1, sizes...)
	ring.Need(c, api.Fill{}, 0, sizes...)
	if !slices.Equal(room, []int{90, 90, 90, 90, 90, 7, 8, 9}) {
		t.Errorf("R2: the sizes are %v", room)
	}
}

func TestAnswersAreNewMemory(t *testing.T) {
	c := shape(2, 4, 512)
	sizes := many(20, 90)
	first := ring.Sets(c, 0, sizes...)
	want := slices.Clone(first)
	first = first[:cap(first)]
	for i := range first {
		first[i] = api.Place{Set: -1, Obj: -1}
	}
	second := ring.Sets(c, 0, sizes...)
	if !slices.Equal(second, want) {
		t.Errorf("R2: Sets behind an answer that was written over: %v", second)
	}
	for i := range sizes {
		sizes[i] = -1
	}
	if !slices.Equal(second, want) {
		t.Errorf("R2: the answer changes with the sizes: %v", second)
	}
}

func TestSpareRoomIsNotRead(t *testing.T) {
	c := shape(1, 4, 512)
	room := many(40, 90)
	for n := range room {
		l, more, _ := rowed(c, api.Fill{}, 1, slices.Clone(room[:n]))
		isSets(t, c, 0, room[:n], l)
		isNeed(t, c, api.Fill{}, 1, room[:n], more)
	}
	room[4] = -1
	isSets(t, c, 0, room[:4], places(0, 0, 0, 0, 0, 0, 0, 0))
	isNeed(t, c, fill(0, 512), 1, room[:4], 1)
}

func TestNilAndEmpty(t *testing.T) {
	for _, c := range append(shapes(), crooked()...) {
		for _, n := range []int{math.MinInt, -1, 0, 1, api.MaxSeq, math.MaxInt} {
			if len(ring.Sets(c, n)) > 0 || len(ring.Sets(c, n, []int{}...)) > 0 {
				t.Errorf("R4: Sets of %v, %d, of no sizes", c, n)
			}
			f := fill(n, n, n, n, n)
			if ring.Need(c, f, n) != 0 || ring.Need(c, f, n, []int{}...) != 0 {
				t.Errorf("R4: Need of %v, %v, %d, of no sizes", c, f, n)
			}
		}
	}
}
