package journal_test

import (
	"fmt"
	"maps"
	"math"
	"math/rand"
	"slices"
	"testing"

	"hectograph/api"
	"hectograph/journal"
	"hectograph/store"
)

// P16.5, P16.6

// keeps is how many wet deeds each of so many objects keeps: all there are of these numbers.
func keeps(objects int, numbers ...int) [][]int {
	l := [][]int{nil}
	for range objects {
		var more [][]int
		for _, k := range l {
			for _, n := range numbers {
				more = append(more, append(slices.Clone(k), n))
			}
		}
		l = more
	}
	return l
}

// opensAgain holds what Open makes of a store without wet deeds against m: behind a Fall at every deed of an Open, opened once, and twice.
func opensAgain(t *testing.T, what string, s *store.Store, m plain) {
	t.Helper()
	for _, keep := range [][]int{nil, {9, 9, 9, 9, 9, 9}, {9, 0, 9}, {0, 9, 0, 9, 9}} {
		for n := 0; ; n++ {
			x := s.Twin()
			x.Fuse(n, keep, 30)
			j, why := journal.Open(x)
			if why == api.OK {
				break
			}
			is(t, what+": Open on a fuse", why, api.ErrOff)
			if j != nil || n > 99 {
				t.Fatalf("%s: Open on a fuse of %d answers a journal", what, n)
			}
			x.Power()
			j, why = journal.Open(x)
			is(t, what+": Open behind an Open that the power went within", why, api.OK)
			alike(t, fmt.Sprint(what, ": Open behind an Open that the power went within at deed ", n, ", ", keep), x, j, m)
		}
	}
	opensTwice(t, what, s, m)
}

// opensTwice holds what Open makes of a store against m: opened once, and behind a Fall once more.
func opensTwice(t *testing.T, what string, s *store.Store, m plain) {
	t.Helper()
	for range 2 {
		j, why := journal.Open(s)
		is(t, what+": Open", why, api.OK)
		alike(t, what, s, j, m)
		is(t, what+": nothing is wet behind an Open", s.Wet(), 0)
		s.Fall(nil, 0)
		s.Power()
	}
}

// expected is what is to be found in these rows of one of several journals, of which the entries up to low are there at least.
func expected(t *testing.T, what string, s *store.Store, low int, ms ...plain) map[string]plain {
	t.Helper()
	rows := rowsOf(t, s)
	l := map[string]plain{}
	for _, m := range ms {
		if end := m.there(rows); end >= low || end == m.end() {
			x := m.opened(end)
			l[x.tell()] = x
		}
	}
	if len(l) == 0 {
		t.Fatalf("P16.5: %s: entries up to %d aren't there", what, low)
	}
	return l
}

// stories is journals with wet entries, tags and clients, in which a call has something to do.
func stories() []story {
	tags := []api.Tag{{ID: 1, Owner: 1}, {ID: 2, Owner: 2, At: 3}, {ID: 5, Owner: 1, At: 6}}
	led := []call{leads(tags...), adds(1, 0), adds(3, 0)}
	return []story{
		{name: "none", shape: two, at: 4, tags: tags[:2], calls: []call{adds(2, 3)}},
		{name: "few", shape: two, tags: first, calls: slices.Concat(led, many(1, 2), []call{flushes()}, many(3, 4, 5))},
		{name: "sets", shape: one, tags: first, calls: slices.Concat(led, many(times(9, 88)...), []call{flushes(), commits(1, 9), commits(3, 8)}, many(90, 90, 90, 90))},
		{name: "round", shape: one, at: 2, tags: first, calls: slices.Concat(led, many(times(15, 85)...), []call{flushes(), trims(), commits(1, 15), commits(3, 11), trims(), flushes()}, many(90, 80, 70, 90, 90))},
		{name: "wide", shape: three, tags: first, calls: slices.Concat(led, many(times(17, 90)...), []call{flushes(), commits(1, 16), commits(3, 17)}, many(70, 80, 90, 1, 1))},
	}
}

// calls is calls that keep something, of a journal that is m.
func calls(m plain) []call {
	led := append(slices.Clone(m.tags), api.Tag{ID: 8, Owner: 1, At: max(m.end(), m.tags[len(m.tags)-1].At)})
	l := []call{appends("x"), appends(fill(1, 90)), flushes(), trims(), leads(led...), adds(2, m.end()), adds(7, m.end()), drops(2), drops(3), commits(1, m.end()), commits(3, m.safe), turns(1, true)}
	for _, end := range []int{m.ahead, m.safe - 2, m.safe, m.safe + 1, m.end()} {
		l = append(l, cuts(max(end, m.ahead)))
	}
	return l
}

// TestFuse: the power goes at every deed of every call.
func TestFuse(t *testing.T) {
	for _, x := range stories() {
		_, _, m := x.told(t)
		for _, c := range calls(m) {
			t.Run(x.name+" "+c.name, func(t *testing.T) {
				t.Parallel()
				fuse(t, x, m, c)
			})
		}
	}
}

func fuse(t *testing.T, x story, m plain, c call) {
	done, _, _ := c.plain(m)
	seen := map[string]int{}
	for n := 0; ; n++ {
		for _, keep := range keeps(4, 0, 1, 9) {
			for _, torn := range []int{0, 60} {
				s, j := x.quick(t)
				s.Fuse(n, keep, torn)
				if _, why := c.do(j); why != api.ErrOff {
					if n == 0 && s.On() && c.name != "Trim" && why == api.OK {
						t.Errorf("P16: %s is kept without a deed", c.name)
					}
					return
				}
				s.Power()
				dead(t, j)
				what := fmt.Sprint(c.name, ", fuse ", n, ", keep ", keep, ", torn ", torn)
				settled(t, what, s, seen, expected(t, what, s, c.least(m), m, done))
			}
		}
	}
}

// settled holds what Open makes of a store behind a Fall against what is expected; of a store that was seen once it does nothing more.
func settled(t *testing.T, what string, s *store.Store, seen map[string]int, want map[string]plain) {
	t.Helper()
	x := s.Twin()
	j, why := journal.Open(x)
	if why != api.OK {
		t.Fatalf("P16.5: %s: Open: %v", what, why)
	}
	got := tellOf(t, x, j)
	m, ok := want[got]
	if !ok {
		t.Fatalf("P16.5: %s: is\n%q\nmust be one of\n%q", what, got, slices.Sorted(maps.Keys(want)))
	}
	if all := m.tell() + tell(m.shape, 0, 0, 0, 0, nil, nil, nil, rowsOf(t, s)); seen[all] == 0 {
		seen[all] = 1
		opensAgain(t, what, s, m)
	}
}

// dead asks all calls of a journal of which one answered ErrOff.
func dead(t *testing.T, j *journal.Journal) {
	t.Helper()
	for name, why := range refusals(j) {
		if why != api.ErrOff {
			t.Fatalf("dead: %s: %v", name, why)
		}
	}
}

// refusals is what all calls that tell an Errno tell, handed what may be and what may not.
func refusals(j *journal.Journal) map[string]api.Errno {
	l := map[string]api.Errno{
		"Flush": j.Flush(), "Cut": j.Cut(j.End()), "Cut beyond": j.Cut(math.MaxInt), "Lead": j.Lead(first), "Lead of none": j.Lead(nil),
		"Add": j.Add(4, j.End()), "Add wrong": j.Add(0, -1), "Drop": j.Drop(1), "Drop wrong": j.Drop(-1), "Commit": j.Commit(1, 0), "Commit wrong": j.Commit(math.MinInt, math.MaxInt),
		"Turn": j.Turn(1, true), "Turn wrong": j.Turn(0, false),
	}
	_, l["Append"] = j.Append([]byte("x"))
	_, l["Append of none"] = j.Append(nil)
	_, l["Read"] = j.Read(j.End(), 1)
	_, l["Read beyond"] = j.Read(-1, -1)
	_, l["Trim"] = j.Trim()
	return l
}

// TestFall: the power goes between two calls, and leaves every number of deeds of every object, and torn bytes of the next.
func TestFall(t *testing.T) {
	for _, x := range stories() {
		t.Run(x.name, func(t *testing.T) {
			t.Parallel()
			s, _, m := x.told(t)
			seen := map[string]int{}
			for i, keep := range keeps(3, 0, 1, 2, 3, 4, 5) {
				for _, torn := range []int{0, 1, 22, 60, 200} {
					s := s.Twin()
					s.Fall(append(keep, i%2*9, i%3, i%4), torn)
					s.Power()
					what := fmt.Sprint("Fall, keep ", keep, ", torn ", torn)
					settled(t, what, s, seen, expected(t, what, s, m.safe, m))
				}
			}
		})
	}
}

// TestTorn: an entry of which any number of bytes is there, but not all, isn't there; all that are ahead of it are.
func TestTorn(t *testing.T) {
	x := story{shape: one, tags: first, calls: append(many(3), flushes())}
	x.calls = append(x.calls, many(40, 9, 70)...)
	s, _, m := x.told(t)
	for keep := range 5 {
		for torn := -1; torn < 100; torn++ {
			s := s.Twin()
			s.Fall([]int{keep}, torn)
			s.Power()
			j, why := journal.Open(s)
			is(t, "P16.5: Open", why, api.OK)
			alike(t, fmt.Sprint("P16.5: keep ", keep, ", torn ", torn), s, j, m.opened(min(1+keep, 4)))
		}
	}
}

// TestRot: a byte that is turned in an entry takes that one away, and those behind it; those ahead of it stay, with what tags and clients have of them.
func TestRot(t *testing.T) {
	for _, x := range stories()[1:] {
		t.Run(x.name, func(t *testing.T) {
			t.Parallel()
			x.calls = append(slices.Clone(x.calls), flushes())
			s, j, m := x.told(t)
			for i, p := range m.places() {
				if x.name != "few" && i%5 > 1 {
					continue
				}
				k := api.Key{Kind: api.KEntry, Num: m.num(p)}
				for at := range 22 + len(m.entries[i].Data) {
					turned := s.Twin()
					is(t, "Rot", turned.Rot(k, p.at+at, byte(1<<(at%8)|at%3)), true)
					if at == 16 || at == 17 {
						j, why := journal.Open(turned)
						is(t, "P16.5: Open where a number of bytes was turned", why, api.OK)
						opensTwice(t, "P16.6: a number of bytes was turned", turned, m.opened(j.End()))
						continue
					}
					opensTwice(t, fmt.Sprint("P16.5: byte ", at, " of entry ", m.ahead+1+i, " turned"), turned, m.opened(m.ahead+i))
				}
			}
			// While it is open what was turned is never told as an entry.
			p := m.places()[1]
			s.Rot(api.Key{Kind: api.KEntry, Num: m.num(p)}, p.at+20, 1)
			l, why := j.Read(m.ahead, 9)
			is(t, "P16.5: Read of what was turned", why, api.OK)
			is(t, "P16.5: Read of what was turned", fmt.Sprint(l), fmt.Sprint(m.entries[:1]))
		})
	}
}

// TestMadeOrNot: where the power goes within a Make or a Wipe, a journal is there as it was made, or none is, and nothing of an elder one comes back.
func TestMadeOrNot(t *testing.T) {
	t.Parallel()
	elder := story{shape: two, tags: first, calls: append(many(times(32, 80)...), flushes(), adds(1, 9))}
	_, _, m := elder.told(t)
	is(t, "the elder one's sets", m.sets(), 4)
	fresh := plain{shape: two, ahead: 5, tags: first, safe: 5}
	// Of the nine objects some keep more than others.
	var l [][]int
	for _, k := range keeps(3, 0, 1, 2) {
		l = append(l, slices.Concat(k, k, k))
	}
	for n := 0; ; n++ {
		over := false
		for _, keep := range l {
			s, _ := elder.quick(t)
			s.Fuse(n, keep, 9)
			if over = journal.Wipe(s) == api.OK; over {
				break
			}
			s.Power()
			if j, why := journal.Open(s.Twin()); why == api.OK {
				x := s.Twin()
				j, _ = journal.Open(x)
				alike(t, "P16.5: Wipe isn't done", x, j, m)
				is(t, "P16.1: Make where Wipe isn't done", journal.Make(s, two, 5, first), api.ErrThere)
				is(t, "P16.1: Wipe again", journal.Wipe(s), api.OK)
			}
			_, why := journal.Open(s)
			is(t, "P16.5: Wipe is done", why, api.ErrNone)
			madeOrNot(t, s, l, n%4, fresh)
		}
		if over {
			is(t, "P16.5: Wipe's deeds, more than few", n > 3, true)
			break
		}
	}
	madeOrNot(t, store.New(api.MaxRoom), l, 0, fresh)
}

// madeOrNot makes, in a store that has no journal, the fresh one; step: of how many ways to fall one is taken.
func madeOrNot(t *testing.T, s *store.Store, l [][]int, step int, fresh plain) {
	t.Helper()
	for n := 0; ; n++ {
		for i := step; i < len(l); i += 1 + 7*step {
			x := s.Twin()
			x.Fuse(n, l[i], 9)
			why := journal.Make(x, fresh.shape, fresh.ahead, fresh.tags)
			x.Power()
			x.Fuse(-1, nil, 0)
			j, opened := journal.Open(x)
			if why == api.OK {
				is(t, "P16.1: Make", opened, api.OK)
				alike(t, "P16.1: Make", x, j, fresh)
				return
			}
			is(t, "P16.5: Make on a fuse", why, api.ErrOff)
			if opened == api.ErrNone {
				is(t, "P16.5: Make again", journal.Make(x, fresh.shape, fresh.ahead, fresh.tags), api.OK)
				j, opened = journal.Open(x)
			}
			is(t, "P16.5: Open behind Make", opened, api.OK)
			alike(t, fmt.Sprint("P16.5: Make, fuse ", n, ", keep ", l[i]), x, j, fresh)
		}
	}
}

// TestFullStoreAndFall: a Wipe that the power went within leaves what a Make in a tight store needs the room of.
func TestFullStoreAndFall(t *testing.T) {
	s := store.New(1600)
	is(t, "P16.1: Make", journal.Make(s, one, 0, first), api.OK)
	j, _ := journal.Open(s)
	for j.Flush() == api.OK {
		if _, why := j.Append([]byte(fill(1, 90))); why != api.OK {
			break
		}
	}
	s.Fuse(2, nil, 0)
	is(t, "P16.1: Wipe on a fuse", journal.Wipe(s), api.ErrOff)
	s.Power()
	_, why := journal.Open(s)
	is(t, "P16.5: Open behind a Wipe", why, api.ErrNone)
	is(t, "P16.1: Make where a Wipe left something", journal.Make(s, two, 3, first), api.OK)
	j, _ = journal.Open(s)
	alike(t, "P16.1: Make where a Wipe left something", s, j, plain{shape: two, ahead: 3, tags: first, safe: 3})
}

// atRandom is a call at random, wrong ones among them.
func atRandom(r *rand.Rand, m plain) call {
	near := func() int {
		if r.Intn(12) == 0 {
			return far()[r.Intn(len(far()))]
		}
		return m.end() + 2 - r.Intn(len(m.entries)+4)
	}
	switch r.Intn(16) {
	case 0, 1:
		return flushes()
	case 2:
		return cuts(near())
	case 3:
		l := slices.Clone(m.tags)
		if n := len(l); r.Intn(3) == 0 && n > 1 {
			l = l[:n-1]
		}
		return leads(append(l, api.Tag{ID: 1 + r.Intn(40), Owner: 1 + r.Intn(2), At: max(0, near())})...)
	case 4, 5:
		return commits(1+r.Intn(3), near())
	case 6:
		return []call{adds(r.Intn(7), near()), drops(r.Intn(7)), turns(1+r.Intn(6), r.Intn(3) > 0)}[r.Intn(3)]
	case 7, 8:
		return trims()
	}
	n := 1 + r.Intn(90)
	if r.Intn(20) == 0 {
		n = []int{0, 91, 200}[r.Intn(3)]
	}
	return appends(fill(r.Intn(999), n))
}

// TestAny: rows of calls at random, with and without Falls, held against the plain journal at each.
func TestAny(t *testing.T) {
	for seed := range 8 {
		t.Run(fmt.Sprint(seed), func(t *testing.T) {
			t.Parallel()
			r := rand.New(rand.NewSource(int64(1600 + seed)))
			for range 20 {
				c := shapes()[r.Intn(len(shapes()))]
				if r.Intn(2) == 0 {
					c = []api.Ring{one, two, three}[r.Intn(3)]
				}
				s, j, m := story{shape: c, at: r.Intn(9), tags: first}.begun(t)
				for range 120 {
					s, j, m = step(t, r, s, j, m)
				}
			}
		})
	}
}

// step is one call at random, and now and then a Fall within it or behind it.
func step(t *testing.T, r *rand.Rand, s *store.Store, j *journal.Journal, m plain) (*store.Store, *journal.Journal, plain) {
	t.Helper()
	c := atRandom(r, m)
	if r.Intn(6) > 0 {
		return s, j, does(t, s, j, m, c)
	}
	keep := []int{r.Intn(6), r.Intn(6), r.Intn(6), r.Intn(6), r.Intn(6)}
	s.Fuse(r.Intn(5), keep, r.Intn(120))
	_, why := c.do(j)
	done, _, must := c.plain(m)
	if why != api.ErrOff {
		is(t, c.name, why, must)
		m = done
		s.Fall(keep, r.Intn(120))
	}
	s.Power()
	seen := map[string]int{fmt.Sprint(): 1}
	want := expected(t, c.name, s, c.least(m), m, done)
	settled(t, c.name, s, seen, want)
	j, why = journal.Open(s)
	is(t, "P16.5: Open", why, api.OK)
	return s, j, want[tellOf(t, s, j)]
}
