package journal_test

import (
	"fmt"
	"math"
	"math/rand"
	"slices"
	"strings"
	"testing"

	"hectograph/api"
	"hectograph/journal"
	"hectograph/store"
)

var (
	one   = api.Ring{Splay: 1, Sets: 4, Size: 512}
	two   = api.Ring{Splay: 2, Sets: 4, Size: 512}
	three = api.Ring{Splay: 3, Sets: 5, Size: 600}
	wide  = api.Ring{Splay: 4, Sets: 8, Size: 4096}
	first = []api.Tag{{ID: 1, Owner: 1}}
	both  = []api.Tag{{ID: 1, Owner: 1}, {ID: 2, Owner: 2, At: 5}}
)

// far is numbers far off, and just beyond every limit.
func far() []int {
	return []int{math.MinInt, math.MinInt + 1, -1 << 40, -2, -1, 0, 1, 2, 1 << 30, 1<<30 + 1, 1 << 40, 1<<40 + 1, math.MaxInt - 1, math.MaxInt}
}

// shapes is shapes at every edge, ordinary ones among them.
func shapes() []api.Ring {
	l := []api.Ring{one, two, three, wide}
	for splay := 1; splay <= 4; splay++ {
		for _, sets := range []int{4, 8} {
			for _, size := range []int{512, 513, 1000, 4096} {
				l = append(l, api.Ring{Splay: splay, Sets: sets, Size: size})
			}
		}
	}
	return l
}

// untouched is a store as it is seen, with all that a refused call may not change.
func untouched(s *store.Store) string {
	keys := ""
	for kind := 1; kind <= 6; kind++ {
		for _, k := range s.Keys(kind, 0) {
			n, _ := s.Size(k)
			b, _ := s.Read(k, 0, n)
			keys += fmt.Sprintf("%v:%x ", k, b)
		}
	}
	return fmt.Sprint(s.Used(), s.Left(), s.Wet(), s.Deeds(), s.On(), keys)
}

// P16.1

func TestMake(t *testing.T) {
	for _, c := range shapes() {
		for _, at := range []int{0, 1, 5, 1<<40 - 1, 1 << 40} {
			x := story{shape: c, at: at, tags: first}
			if at >= 5 {
				x.tags = both
			}
			s, j, m := x.begun(t)
			alike(t, "P16.1: a new one", s, j, m)
			is(t, "P16.1: First of a new one", j.First(), at+1)
			is(t, "P16.1: End of a new one", j.End(), at)
			is(t, "P16.1: Safe of a new one", j.Safe(), at)
			is(t, "P16.1: Sets of a new one", j.Sets(), 1)
			s.Fall(nil, 0)
			s.Power()
			j, why := journal.Open(s)
			is(t, "P16.1: Open behind a Fall", why, api.OK)
			alike(t, "P16.1: Make is kept", s, j, m)
		}
	}
}

func TestMakeRefuses(t *testing.T) {
	for i, x := range []struct {
		c    api.Ring
		at   int
		tags []api.Tag
	}{
		{api.Ring{}, 0, first}, {api.Ring{Splay: 0, Sets: 4, Size: 512}, 0, first}, {api.Ring{Splay: 5, Sets: 4, Size: 512}, 0, first},
		{api.Ring{Splay: 1, Sets: 3, Size: 512}, 0, first}, {api.Ring{Splay: 1, Sets: 9, Size: 512}, 0, first},
		{api.Ring{Splay: 1, Sets: 4, Size: 511}, 0, first}, {api.Ring{Splay: 1, Sets: 4, Size: 4097}, 0, first},
		{api.Ring{Splay: math.MinInt, Sets: math.MaxInt, Size: math.MaxInt}, 0, first},
		{one, -1, first}, {one, 1<<40 + 1, first}, {one, math.MinInt, first}, {one, math.MaxInt, first},
		{one, 0, nil}, {one, 0, []api.Tag{}}, {one, 0, []api.Tag{{}}}, {one, 0, []api.Tag{{ID: 1}}}, {one, 9, []api.Tag{{ID: 1, Owner: 1, At: 1}}},
		{one, 9, []api.Tag{{ID: 1, Owner: 1}, {ID: 1, Owner: 2, At: 3}}}, {one, 9, []api.Tag{{ID: 1, Owner: 1}, {ID: 2, Owner: 2, At: 5}, {ID: 3, Owner: 1, At: 4}}},
		{one, 4, both}, {one, 0, both}, {one, 5, append(slices.Clone(both), api.Tag{ID: 3, Owner: 1, At: 6})},
		{one, math.MaxInt, []api.Tag{{ID: math.MinInt, Owner: math.MaxInt, Heir: math.MinInt, At: math.MaxInt}}},
	} {
		s := store.New(api.MaxRoom)
		was := untouched(s)
		is(t, fmt.Sprint("P16.1: Make, wrong case ", i), journal.Make(s, x.c, x.at, x.tags), api.ErrArg)
		is(t, fmt.Sprint("P16.1: Make, wrong case ", i, " changed"), untouched(s), was)
		is(t, fmt.Sprint("P16.1: Make without power, wrong case ", i), journal.Make(fallen(), x.c, x.at, x.tags), api.ErrOff)
		is(t, fmt.Sprint("R1: Make without a store, wrong case ", i), journal.Make(nil, x.c, x.at, x.tags), api.ErrArg)
		s, _, m := story{shape: two, tags: first, calls: many(3, 4)}.told(t)
		was = untouched(s)
		is(t, fmt.Sprint("P16.1: ErrArg ahead of ErrThere, wrong case ", i), journal.Make(s, x.c, x.at, x.tags), api.ErrArg)
		is(t, "P16.1: Make where there is one", journal.Make(s, one, 9, both), api.ErrThere)
		is(t, "P16.1: Make where there is one changed", untouched(s), was)
		j, _ := journal.Open(s)
		alike(t, "P16.1: what was there", s, j, m.opened(2))
	}
	is(t, "P16.1: Make of a tag at at", journal.Make(store.New(api.MaxRoom), one, 5, both), api.OK)
	is(t, "P16.1: Make without power", journal.Make(fallen(), one, 0, first), api.ErrOff)
	is(t, "P16.1: Make without a store", journal.Make(nil, one, 0, first), api.ErrArg)
	is(t, "P16.1: Make in a store that nobody made", journal.Make(&store.Store{}, one, 0, first), api.ErrFull)
}

// fallen is a store without power.
func fallen() *store.Store {
	s := store.New(api.MaxRoom)
	s.Fall(nil, 0)
	return s
}

// crowd is a store of that room with n objects without bytes.
func crowd(room, n int) *store.Store {
	s := store.New(room)
	for i := range n {
		s.Make(api.Key{Kind: api.KData, Num: i})
	}
	return s
}

func TestMakeInAFullStore(t *testing.T) {
	made := 0
	for room := range 1200 {
		s := store.New(room)
		was := untouched(s)
		why := journal.Make(s, wide, 0, first)
		if why == api.OK {
			made++
			continue
		}
		is(t, fmt.Sprint("P16.1: the store's, of room ", room), why, api.ErrFull)
		is(t, "P16.1: a Make that is refused changed something", untouched(s), was)
		_, why = journal.Open(s)
		is(t, "P16.1: Open behind a Make that was refused", why, api.ErrNone)
	}
	if made == 0 || made == 1200 {
		t.Errorf("P16.1: made in %d of 1200 rooms", made)
	}
	s := crowd(api.MaxRoom, api.MaxThings)
	was := untouched(s)
	is(t, "P16.1: Make among MaxThings objects", journal.Make(s, wide, 0, first), api.ErrFull)
	is(t, "P16.1: Make among MaxThings objects changed something", untouched(s), was)
}

func TestOpenOfNone(t *testing.T) {
	stray := store.New(api.MaxRoom)
	for _, k := range []api.Key{{Kind: api.KMeta}, {Kind: api.KEntry}, {Kind: api.KEntry, Num: 3, Snap: 2}, {Kind: api.KHead}} {
		stray.Make(k)
		stray.Append(k, []byte(laid(api.Entry{Tag: 1, Seq: 1, Data: []byte("a")})))
		stray.Set(k, "x", []byte("y"))
	}
	wiped, _, _ := story{shape: one, tags: first, calls: many(3, 4)}.told(t)
	journal.Wipe(wiped)
	for i, s := range []*store.Store{store.New(api.MaxRoom), store.New(0), {}, stray, wiped, crowd(5, 9)} {
		was := untouched(s)
		j, why := journal.Open(s)
		is(t, fmt.Sprint("P16.1: Open of none, store ", i), why, api.ErrNone)
		is(t, fmt.Sprint("P16.1: Open of none, store ", i, " changed something"), untouched(s), was)
		if j != nil {
			t.Errorf("R3: Open of none, store %d: a journal", i)
		}
	}
	j, why := journal.Open(nil)
	is(t, "R1: Open without a store", why, api.ErrArg)
	x, why2 := journal.Open(fallen())
	is(t, "P16.1: Open without power", why2, api.ErrOff)
	if j != nil || x != nil {
		t.Error("R3: Open: a journal beside a refusal")
	}
}

func TestWipe(t *testing.T) {
	for _, c := range shapes() {
		s, _, _ := story{shape: c, at: 3, tags: first, calls: many(times(30, 90)...)}.told(t)
		data := api.Key{Kind: api.KData, Num: 7}
		s.Make(data)
		s.Append(data, []byte("guest"))
		is(t, "P16.1: Wipe", journal.Wipe(s), api.OK)
		is(t, "P16.1: what Wipe leaves", s.Used(), 5)
		is(t, "P16.1: objects that Wipe leaves", len(s.Keys(api.KMeta, 0))+len(s.Keys(api.KEntry, 0)), 0)
		is(t, "P16.1: Wipe again", journal.Wipe(s), api.OK)
		s.Fall(nil, 0)
		s.Power()
		_, why := journal.Open(s)
		is(t, "P16.1: Wipe is kept", why, api.ErrNone)
		is(t, "P16.1: Make behind a Wipe", journal.Make(s, two, 4, first), api.OK)
		j, _ := journal.Open(s)
		alike(t, "P16.1: Make behind a Wipe", s, j, plain{shape: two, ahead: 4, tags: first, safe: 4})
	}
	is(t, "P16.1: Wipe of none", journal.Wipe(store.New(9)), api.OK)
	is(t, "P16.1: Wipe without power", journal.Wipe(fallen()), api.ErrOff)
	is(t, "R1: Wipe without a store", journal.Wipe(nil), api.ErrArg)
}

// TestOpen lays by hand, in objects of entries, what Open is to find, or to cut off.
func TestOpen(t *testing.T) {
	x := story{shape: two, tags: []api.Tag{{ID: 1, Owner: 1}, {ID: 2, Owner: 2, At: 4}}, at: 4, calls: append(many(9, 10, 11), flushes())}
	e := func(tag, seq int, data string) string {
		return laid(api.Entry{Tag: tag, Seq: seq, Data: []byte(data)})
	}
	whole := e(2, 8, "more")
	for i, c := range []struct {
		num  int
		data string
		n    int // how many entries are there then
	}{
		{0, whole, 4}, {1, whole, 3}, {2, whole, 3}, {4, whole, 3}, {31, whole, 3},
		{0, e(1, 8, "more"), 3}, {0, e(3, 8, "more"), 3}, {0, e(2, 9, "more"), 3}, {1, e(2, 9, "more"), 3}, {1, e(2, 7, "more"), 3}, {0, e(2, 4, "more"), 3},
		{0, whole[:len(whole)-1], 3}, {0, whole[:1], 3}, {0, "x", 3}, {1, "x", 3}, {7, "x", 3}, {0, strings.Repeat("\x00", 500), 3}, {0, "x" + whole, 3},
		{0, whole + "x", 4}, {0, whole + whole, 4}, {0, whole + e(2, 10, "b"), 4}, {0, whole + e(2, 9, "b"), 4}, {5, "", 3},
	} {
		s, _, m := x.told(t)
		k := api.Key{Kind: api.KEntry, Num: c.num}
		s.Make(k)
		is(t, "laid by hand", s.Append(k, []byte(c.data)), api.OK)
		if c.n == 4 {
			m, _ = m.append("more")
		}
		j, why := journal.Open(s)
		is(t, "P16.1: Open", why, api.OK)
		alike(t, fmt.Sprint("P16.1: Open, case ", i), s, j, m.opened(4+c.n))
		s.Fall(nil, 0)
		s.Power()
		j, _ = journal.Open(s)
		alike(t, fmt.Sprint("P16.1: what Open cut off is gone, case ", i), s, j, m.opened(4+c.n))
	}
	s, _, m := x.told(t)
	k := api.Key{Kind: api.KEntry, Num: 1, Snap: 3}
	s.Make(k)
	s.Append(k, []byte(whole))
	j, _ := journal.Open(s)
	alike(t, "P16.1: an object of another Snap", s, j, m.opened(7))
	other := api.Key{Kind: api.KEntry, Img: 1}
	s.Make(other)
	s.Append(other, []byte(whole))
	j, _ = journal.Open(s)
	alike(t, "P16.1: an object of another Img", s, j, m.opened(7))
	n, _ := s.Size(other)
	is(t, "P16.1: an object of another Img is nobody's", n, len(whole))
}

// TestOpenCutsTags: tags whose At is above End, and a client's Pos, go back to End.
func TestOpenCutsTags(t *testing.T) {
	x := story{shape: two, tags: first, calls: append(many(9, 10, 11), flushes(), adds(7, 3), adds(2, 1),
		leads(first[0], api.Tag{ID: 2, Owner: 2, At: 2}, api.Tag{ID: 3, Heir: 1, At: 3}, api.Tag{ID: 5, Owner: 1, At: 3}, api.Tag{ID: 7, Owner: 1, At: 4}, api.Tag{ID: 9, Owner: 1, At: 1 << 40}))}
	x.calls = slices.Delete(x.calls, 6, 7)
	x.calls = append(x.calls, leads(first[0], api.Tag{ID: 3, Heir: 1, At: 3}, api.Tag{ID: 5, Owner: 1, At: 3}, api.Tag{ID: 7, Owner: 1, At: 4}, api.Tag{ID: 9, Owner: 1, At: 1 << 40}))
	s, _, m := x.told(t)
	for end := 3; end >= 0; end-- {
		j, why := journal.Open(s)
		is(t, "P16.1: Open", why, api.OK)
		alike(t, fmt.Sprint("P16.1: opened at ", end), s, j, m.opened(end))
		if end > 0 {
			s.Rot(api.Key{Kind: api.KEntry, Num: end % 2}, size(t, s, end%2)-1, 1)
		}
	}
}

// size is how many bytes an object of entries has.
func size(t *testing.T, s *store.Store, num int) int {
	t.Helper()
	n, why := s.Size(api.Key{Kind: api.KEntry, Num: num})
	is(t, "an object of entries", why, api.OK)
	return n
}

// P16.2

func TestAppend(t *testing.T) {
	for _, c := range shapes() {
		s, j, m := story{shape: c, at: 3, tags: append(slices.Clone(first), api.Tag{ID: 4, Owner: 2, At: 2}, api.Tag{ID: 6, Owner: 1, At: 3})}.begun(t)
		for _, n := range []int{0, 1, 90, 91, 2, 89, 1000, 45} {
			m = does(t, s, j, m, appends(fill(n, n)))
		}
		is(t, "P16.2: End", j.End(), 8)
		is(t, "P16.2: Safe is as it was", j.Safe(), 3)
		if s.Wet() == 0 {
			t.Error("P16.2: what is appended isn't wet")
		}
		m = does(t, s, j, m, flushes())
		is(t, "P16.2: Safe behind a Flush", j.Safe(), 8)
		is(t, "P16.2: a Flush is a Barrier", s.Wet(), 0)
		does(t, s, j, m, flushes())
	}
}

// TestAppendToTheBrim: as many sets as the ring may have, each object of the last one to its end, and not one entry more.
func TestAppendToTheBrim(t *testing.T) {
	t.Parallel()
	for _, c := range shapes() {
		for _, n := range []int{90, 60, 1} {
			s, j, m := story{shape: c, tags: first}.begun(t)
			for j.Fits(n) {
				if seq, why := j.Append([]byte(fill(j.End(), n))); why != api.OK || seq != j.End() {
					t.Fatalf("P16.2: Append of %d to %v: %d, %v", n, c, seq, why)
				}
				m.entries = append(m.entries, api.Entry{Tag: 1, Seq: j.End(), Data: []byte(fill(j.End()-1, n))})
			}
			alike(t, "P16.2: to the brim", s, j, m)
			is(t, fmt.Sprint("P16.2: Sets of ", c, " filled with ", n), j.Sets(), c.Sets)
			for range 3 {
				m = does(t, s, j, m, appends(fill(1, 90)))
				m = does(t, s, j, m, appends(fill(2, 1)))
			}
			j, _ = journal.Open(s)
			alike(t, "P16.2: to the brim, opened anew", s, j, m.opened(m.end()))
		}
	}
	s, j, m := story{shape: one, tags: first, calls: many(times(16, 90)...)}.told(t)
	for _, n := range []int{43, 90, 42, 1} {
		m = does(t, s, j, m, appends(fill(n, n)))
	}
	is(t, "P16.2: 64 bytes that were left", j.End(), 17)
}

func TestAppendAtMaxSeq(t *testing.T) {
	for _, c := range []api.Ring{one, two, three, wide} {
		s, j, m := story{shape: c, at: 1<<40 - 2, tags: first}.begun(t)
		for _, n := range []int{1, 90, 1, 90, 0, 91} {
			m = does(t, s, j, m, appends(fill(n, n)))
		}
		is(t, "P16.2: MaxSeq", j.End(), 1<<40)
		is(t, "P16.2: Fits goes by sets alone", j.Fits(1, 90), true)
		m = does(t, s, j, m, flushes())
		m = does(t, s, j, m, cuts(1<<40-1))
		m = does(t, s, j, m, appends("x"))
		j, _ = journal.Open(s)
		alike(t, "P16.2: MaxSeq, opened anew", s, j, m.opened(m.end()))
	}
}

// TestAppendInAFullStore: the store's room, and its objects, run out at every entry; what is refused changes nothing.
func TestAppendInAFullStore(t *testing.T) {
	s, _, _ := story{shape: two, tags: first}.begun(t)
	record := s.Used()
	for room := record; room < record+400; room++ {
		s := store.New(room)
		is(t, "P16.1: Make", journal.Make(s, two, 0, first), api.OK)
		j, _ := journal.Open(s)
		m := plain{shape: two, tags: first}
		for _, n := range []int{90, 20, 1, 50} {
			for s.Left() >= 22+n {
				m = does(t, s, j, m, appends(fill(m.end(), n)))
			}
			was := untouched(s)
			seq, why := j.Append([]byte(fill(1, n)))
			is(t, "P16.2: the store has no room", why, api.ErrFull)
			is(t, "R3: Append's number beside a refusal", seq, 0)
			is(t, "P16.2: what is refused changed something", untouched(s), was)
			is(t, "P16.2: Fits doesn't ask for the store's room", j.Fits(n), true)
		}
		alike(t, "P16.2: a full store", s, j, m)
	}
	for free, taken := range []int{0, 1, 4} {
		s := crowd(api.MaxRoom, api.MaxThings-1-free)
		is(t, "P16.1: Make", journal.Make(s, two, 1, first), api.OK)
		j, _ := journal.Open(s)
		m := plain{shape: two, ahead: 1, tags: first, safe: 1}
		for range taken {
			m = does(t, s, j, m, appends("x"))
			if free == 1 {
				break
			}
		}
		if free == 2 {
			continue
		}
		was := untouched(s)
		_, why := j.Append([]byte("x"))
		is(t, fmt.Sprint("P16.2: MaxThings objects, ", free, " were free"), why, api.ErrFull)
		is(t, "P16.2: what is refused changed something", untouched(s), was)
		alike(t, "P16.2: MaxThings objects", s, j, m)
	}
}

// TestNoRoomIsAskedForButByAppend: in a store that is full to its last byte all else is done, the longest chain and the greatest numbers laid too.
func TestNoRoomIsAskedForButByAppend(t *testing.T) {
	s, j, m := story{shape: one, at: 1<<40 - 400, tags: []api.Tag{{ID: 1 << 30, Owner: 1}}, calls: many(times(13, 90)...)}.told(t)
	stuff := api.Key{Kind: api.KData}
	s.Make(stuff)
	for i := 0; s.Left() > 0; i++ {
		k := api.Key{Kind: api.KData, Num: i}
		s.Make(k)
		s.Append(k, make([]byte, min(s.Left(), api.MaxObject)))
	}
	long := []api.Tag{{ID: 1 << 30, Owner: 1}}
	for i := range 31 {
		long = append(long, api.Tag{ID: 1<<30 - 1 - i, Heir: 2, At: 1 << 40})
	}
	for _, c := range []call{leads(long...), adds(1<<30, m.end()), adds(1<<30-1, m.end()), adds(1<<30-2, m.end()), adds(1<<30-3, m.end()-1), commits(1<<30-3, m.end()), turns(1<<30, true), flushes(), trims(), cuts(m.end() - 1), drops(1 << 30)} {
		m = does(t, s, j, m, c)
	}
	is(t, "P16.4: Trim makes room", s.Left(), 13*112)
	j, why := journal.Open(s)
	is(t, "P16.1: Open in a store that was full", why, api.OK)
	alike(t, "P16.1: Open in a store that was full", s, j, m)
}

func TestFits(t *testing.T) {
	t.Parallel()
	r := rand.New(rand.NewSource(162))
	for _, c := range shapes() {
		s, j, m := story{shape: c, at: r.Intn(5), tags: first}.begun(t)
		is(t, "P16.2: Fits of none", j.Fits(), true)
		for _, n := range append(far(), 91, 3, 90) {
			is(t, fmt.Sprint("P16.2: Fits of ", n), j.Fits(n), n >= 1 && n <= 90)
			is(t, fmt.Sprint("P16.2: Fits of 5, ", n, ", 5"), j.Fits(5, n, 5), n >= 1 && n <= 90)
		}
		for j.Fits(90) {
			if m.end()%16 == 0 {
				full := c.Splay * c.Sets * c.Size / 23
				sizes := make([]int, r.Intn(full))
				for i := range sizes {
					sizes[i] = 1 + r.Intn(90)
				}
				is(t, fmt.Sprint("P16.2: Fits of ", len(sizes), " behind ", m.end()), j.Fits(sizes...), m.fits(sizes))
			}
			n := 1 + r.Intn(90)
			if _, why := j.Append(make([]byte, n)); why != api.OK {
				t.Fatalf("P16.2: Append of %d, where 90 fit: %v", n, why)
			}
			m, _ = m.append(string(make([]byte, n)))
		}
		is(t, "P16.2: Fits of what begins a set more", m.fits([]int{90}), false)
		is(t, "P16.2: Fits of none in a full ring", j.Fits(), true)
		alike(t, "P16.2: Fits changes nothing", s, j, m)
	}
	// Four sets of four of 90, and 64 bytes each that are left.
	_, j, _ := story{shape: one, tags: first}.begun(t)
	fourth := times(16, 90)
	is(t, "P16.2: Fits of sizes that fill all sets", j.Fits(fourth...), true)
	is(t, "P16.2: Fits of what is left behind these", j.Fits(append(fourth, 42)...), true)
	is(t, "P16.2: Fits of one byte more", j.Fits(append(fourth, 43)...), false)
	is(t, "P16.2: Fits of two that are left", j.Fits(append(fourth, 1, 19)...), true)
	is(t, "P16.2: Fits of two, one byte more", j.Fits(append(fourth, 1, 20)...), false)
}

// P16.3

func TestRead(t *testing.T) {
	for _, x := range []story{
		{shape: one, tags: both, at: 5}, {shape: two, tags: both, at: 5, calls: many(1)}, {shape: one, tags: first, calls: append(many(times(14, 80)...), flushes(), trims())},
		{shape: three, tags: first, at: 1<<40 - 9, calls: many(5, 90, 1, 33)}, {shape: wide, tags: first, at: 2, calls: append(many(times(70, 30)...), flushes(), cuts(40))},
	} {
		s, j, m := x.told(t)
		ends := []int{m.ahead - 2, m.ahead - 1, m.ahead, m.ahead + 1, m.ahead + 2, m.end() - 1, m.end(), m.end() + 1, m.end() + 2}
		was := untouched(s)
		for _, pos := range append(ends, far()...) {
			for _, most := range append([]int{len(m.entries), len(m.entries) + 1, len(m.entries) - 1}, far()...) {
				l, why := j.Read(pos, most)
				want, wantWhy := m.read(pos, most)
				is(t, fmt.Sprint("P16.3: Read of ", pos, ", ", most), why, wantWhy)
				is(t, fmt.Sprint("P16.3: Read of ", pos, ", ", most), fmt.Sprint(l), fmt.Sprint(want))
			}
		}
		is(t, "R7: Read performs deeds", untouched(s), was)
	}
}

func TestCut(t *testing.T) {
	t.Parallel()
	tags := []api.Tag{{ID: 1, Owner: 1}, {ID: 2, Owner: 2, At: 3}, {ID: 3, Heir: 1, At: 3}, {ID: 5, Owner: 1, At: 3}, {ID: 8, Owner: 2, At: 7}, {ID: 9, Owner: 1, At: 11}}
	for _, c := range []api.Ring{one, two, three, {Splay: 4, Sets: 4, Size: 512}} {
		x := story{shape: c, at: 1, tags: tags[:1], calls: append([]call{leads(tags...)}, many(append(times(14*c.Splay, 70), 1, 90)...)...)}
		x.calls = append(x.calls, adds(1, 9), adds(4, 2), adds(9, 4*c.Splay), turns(9, true))
		for _, more := range [][]call{nil, {flushes()}, {flushes(), commits(1, 9), commits(4, 14*c.Splay), trims()}} {
			y := x
			y.calls = append(slices.Clone(x.calls), more...)
			_, _, m := y.told(t)
			for end := m.ahead - 2; end <= m.end()+2; end++ {
				s, j := y.quick(t)
				n := does(t, s, j, m, cuts(end))
				if end < m.ahead || end > m.end() {
					continue
				}
				is(t, "P16.3: Safe behind a Cut", j.Safe(), end)
				fallen := s.Twin()
				fallen.Fall(nil, 0)
				fallen.Power()
				anew, why := journal.Open(fallen)
				is(t, "P16.1: Open", why, api.OK)
				alike(t, fmt.Sprint("P16.3: Cut to ", end, " is kept"), fallen, anew, n)
				for _, size := range []int{1, 90, 90, 90, 20} {
					n = does(t, s, j, n, appends(fill(size, size)))
				}
				does(t, s, j, n, cuts(end))
			}
			for _, end := range far() {
				s, j := y.quick(t)
				does(t, s, j, m, cuts(end))
			}
		}
	}
}

func TestLead(t *testing.T) {
	tags := []api.Tag{{ID: 1, Owner: 1}, {ID: 2, Owner: 2, At: 5}, {ID: 3, Owner: 1, At: 9}}
	x := story{shape: one, at: 4, tags: tags[:1], calls: append([]call{leads(tags...)}, append(many(times(8, 90)...), flushes(), trims())...)}
	s, j, m := x.told(t)
	is(t, "P16.3: the first entry of those that are led", m.ahead, 8)
	long := []api.Tag{{ID: 2, Owner: 2}, {ID: 3, Owner: 1, At: 9}}
	for i := range 30 {
		long = append(long, api.Tag{ID: 4 + i, Heir: 1, At: 12 + i})
	}
	for _, l := range [][]api.Tag{
		nil, {}, {{}}, {{ID: 2, Owner: 2, At: 1}, {ID: 3, Owner: 1, At: 9}}, {{ID: 2, Owner: 2}, {ID: 2, Owner: 1, At: 9}}, {{ID: 2, Owner: 2}, {ID: 3, Owner: 3, At: 9}},
		{{ID: 2, Owner: 2}, {ID: 3, Owner: 1, At: 10}}, {{ID: 2, Owner: 2}, {ID: 3, Owner: 1, At: 8}}, {{ID: 2, Owner: 2}}, {{ID: 3, Owner: 2}}, tags[:2],
		{{ID: 7, Owner: 2}, {ID: 3, Owner: 1, At: 9}}, {{ID: 2, Owner: 2}, {ID: 7, Owner: 1, At: 9}}, {{ID: 2, Owner: 2}, {ID: 3, Owner: 1, At: 9}, {ID: 7, Owner: 1, At: 11}},
		{{ID: 2, Owner: 2}, {ID: 3, Owner: 1, At: 9}, {ID: 7, Owner: 1, At: 9}}, append(long, api.Tag{ID: 99, Heir: 1, At: 99}), {{ID: math.MinInt, At: math.MaxInt}, {ID: math.MaxInt, At: math.MinInt}},
	} {
		is(t, fmt.Sprint("P16.3: Lead of ", l), j.Lead(l), api.ErrArg)
		alike(t, fmt.Sprint("P16.3: Lead of ", l, " changed something"), s, j, m)
	}
	for _, l := range [][]api.Tag{
		tags, {{ID: 2, Owner: 2}, {ID: 3, Owner: 1, At: 9}}, {{ID: 2, Heir: 1}, {ID: 3, Owner: 2, At: 9}}, {{ID: 9, Owner: 1}, {ID: 2, Owner: 1, At: 8}, {ID: 3, Owner: 1, At: 9}},
		{{ID: 9, Owner: 1}, {ID: 2, Owner: 1}, {ID: 7, Owner: 1, At: 9}, {ID: 3, Owner: 1, At: 9}}, {{ID: 2, Owner: 2}, {ID: 3, Owner: 1, At: 9}, {ID: 7, Owner: 1, At: 12}}, long,
	} {
		m = does(t, s, j, m, leads(l...))
		fallen := s.Twin()
		fallen.Fall(nil, 0)
		fallen.Power()
		anew, _ := journal.Open(fallen)
		alike(t, "P16.3: Lead is kept", fallen, anew, m.opened(m.end()))
		n := does(t, s, j, m, appends("x"))
		m = does(t, s, j, n, cuts(12))
	}
	s, j, m = story{shape: one, at: 4, tags: tags[:1]}.begun(t)
	for _, l := range [][]api.Tag{{{ID: 7, Owner: 2}}, tags, {{ID: 8, Owner: 2}, {ID: 9, Owner: 1, At: 4}, {ID: 7, Owner: 1, At: 4}}} {
		m = does(t, s, j, m, leads(l...))
	}
	does(t, s, j, m, appends("of a chain that was led without entries"))
}

// P16.4

func TestClients(t *testing.T) {
	x := story{shape: two, at: 3, tags: first, calls: append(many(1, 2, 3), adds(5, 4), adds(1, 6), adds(1<<30, 0), flushes())}
	_, _, m := x.told(t)
	s, j := x.quick(t)
	for _, id := range append(far(), 5, 6) {
		for _, pos := range append(far(), 3, 6, 7) {
			for _, c := range []call{adds(id, pos), commits(id, pos), drops(id), turns(id, true), turns(id, false)} {
				if _, _, why := c.plain(m); why == api.OK {
					s, j := x.quick(t)
					n := does(t, s, j, m, c)
					s.Fall(nil, 0)
					s.Power()
					anew, _ := journal.Open(s)
					alike(t, c.name+" is kept", s, anew, n)
					continue
				}
				was := untouched(s)
				does(t, s, j, m, c)
				is(t, c.name+" changed something", untouched(s), was)
			}
		}
	}
	for _, c := range []call{adds(7, 6), adds(8, 6), adds(8, 7), adds(7, 6), drops(5), adds(8, 0), commits(8, 5), commits(8, 4), turns(8, true), turns(8, true), commits(8, 6), turns(8, false), drops(8), drops(8), turns(8, true), commits(8, 1)} {
		m = does(t, s, j, m, c)
	}
}

func TestTrim(t *testing.T) {
	// Three sets of four entries each, and one that has two.
	x := story{shape: one, tags: first, calls: many(times(14, 90)...)}
	for _, c := range []struct {
		name  string
		calls []call
		gone  int
	}{
		{"nothing safe", nil, 0}, {"no clients", []call{flushes()}, 12}, {"nothing safe, a client at the end", []call{adds(1, 14)}, 0},
		{"one behind", []call{flushes(), adds(1, 3)}, 0}, {"one at a set's last", []call{flushes(), adds(1, 4)}, 4}, {"one at a set's first", []call{flushes(), adds(1, 5)}, 4},
		{"two", []call{flushes(), adds(1, 14), adds(2, 11)}, 8}, {"two, turned about", []call{flushes(), adds(1, 11), adds(2, 14)}, 8},
		{"one that is off", []call{flushes(), adds(1, 1), turns(1, true)}, 12}, {"one that is off, one that isn't", []call{flushes(), adds(1, 1), turns(1, true), adds(2, 8)}, 8},
		{"one that was off", []call{flushes(), adds(1, 1), turns(1, true), turns(1, false)}, 0}, {"one that is gone", []call{flushes(), adds(1, 1), drops(1)}, 12},
		{"one at 0", []call{flushes(), adds(1, 0)}, 0}, {"one that went on", []call{flushes(), adds(1, 0), commits(1, 13)}, 12}, {"a set alone", []call{flushes(), cuts(3)}, 0},
		{"cut to a set's last", []call{cuts(8)}, 4}, {"cut to a set's first", []call{cuts(9)}, 8}, {"cut to none", []call{cuts(0)}, 0},
	} {
		y := x
		y.calls = append(slices.Clone(x.calls), c.calls...)
		s, j, m := y.told(t)
		n, why := j.Trim()
		is(t, "P16.4: Trim of "+c.name, why, api.OK)
		is(t, "P16.4: Trim of "+c.name, n, c.gone)
		m, _ = m.trim()
		alike(t, "P16.4: Trim of "+c.name, s, j, m)
		m = does(t, s, j, m, trims())
		s.Fall(nil, 0)
		s.Power()
		m = m.opened(m.there(rowsOf(t, s)))
		anew, _ := journal.Open(s)
		alike(t, "P16.4: Trim is kept: "+c.name, s, anew, m)
	}
	s, j, m := x.told(t)
	for n := range 14 {
		y := x
		y.calls = append(append(many(times(n, 90)...), flushes()), many(times(14-n, 90)...)...)
		s, j, m = y.told(t)
		m = does(t, s, j, m, trims())
	}
	is(t, "P16.4: the first behind a Trim", j.First(), 13)
	_, why := j.Read(11, 1)
	is(t, "P16.3: Read of what was trimmed", why, api.ErrTrimmed)
}

// TestRound: a journal goes round its ring again and again.
func TestRound(t *testing.T) {
	t.Parallel()
	r := rand.New(rand.NewSource(164))
	for _, c := range shapes()[:12] {
		s, j, m := story{shape: c, tags: first}.begun(t)
		for range 6 * c.Sets {
			for range 6 * c.Splay {
				n := 60 + r.Intn(31)
				if _, why := j.Append([]byte(fill(m.end(), n))); why == api.OK {
					m, _ = m.append(fill(m.end(), n))
				}
			}
			m = does(t, s, j, m, flushes())
			m = does(t, s, j, m, trims())
			if r.Intn(3) == 0 {
				j, _ = journal.Open(s)
				alike(t, "P16.1: Open, round the ring", s, j, m)
			}
		}
		if m.base < 2*c.Sets && c.Size < 1000 {
			t.Errorf("the ring %v was gone round too seldom: set %d", c, m.base)
		}
	}
}
