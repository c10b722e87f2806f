package journal_test

import (
	"bytes"
	"fmt"
	"math"
	"slices"
	"testing"

	"hectograph/api"
	"hectograph/journal"
	"hectograph/store"
)

// R1 to R9

// TestNone: a nil journal, and one that nobody opened.
func TestNone(t *testing.T) {
	for _, j := range []*journal.Journal{nil, {}, new(journal.Journal)} {
		for name, why := range refusals(j) {
			is(t, "R1: no journal: "+name, why, api.ErrArg)
		}
		is(t, "R1: First of none", j.First(), 0)
		is(t, "R1: End of none", j.End(), 0)
		is(t, "R1: Safe of none", j.Safe(), 0)
		is(t, "R1: Sets of none", j.Sets(), 0)
		is(t, "R1: Shape of none", j.Shape(), api.Ring{})
		is(t, "R1: Chain of none", len(j.Chain()), 0)
		is(t, "R1: Clients of none", len(j.Clients()), 0)
		is(t, "R1: Fits of none", j.Fits() || j.Fits(1), false)
		n, _ := j.Append([]byte("x"))
		gone, _ := j.Trim()
		l, _ := j.Read(0, 1)
		is(t, "R3: no journal", n+gone+len(l), 0)
	}
}

// TestOff: without power all calls tell ErrOff, whatever they are handed, and go on so.
func TestOff(t *testing.T) {
	x := story{shape: two, at: 2, tags: first, calls: append(many(5, 6), flushes(), adds(1, 3))}
	s, j, m := x.told(t)
	s.Fall(nil, 0)
	dead(t, j)
	n, _ := j.Append([]byte("x"))
	gone, _ := j.Trim()
	l, _ := j.Read(2, 1)
	is(t, "R3: beside ErrOff", n+gone+len(l), 0)
	s.Power()
	dead(t, j)
	anew, why := journal.Open(s)
	is(t, "P16.1: Open", why, api.OK)
	alike(t, "P16.5: what dead calls changed", s, anew, m)
	// One call alone makes it dead.
	for i := range 11 {
		s, j := x.quick(t)
		s.Fall(nil, 0)
		switch i {
		case 0:
			j.Append(nil)
		case 1:
			j.Flush()
		case 2:
			j.Read(0, 0)
		case 3:
			j.Cut(0)
		case 4:
			j.Lead(nil)
		case 5:
			j.Add(0, 0)
		case 6:
			j.Drop(0)
		case 7:
			j.Commit(0, 0)
		case 8:
			j.Turn(0, true)
		case 9:
			j.Trim()
		case 10:
			s.Power()
			is(t, "alive: no call told ErrOff", j.Flush(), api.OK)
			continue
		}
		s.Power()
		dead(t, j)
	}
}

// TestDeadTellsWhatWas: what tells no Errno goes on telling one of what was and what was to be.
func TestDeadTellsWhatWas(t *testing.T) {
	for _, x := range stories() {
		_, _, m := x.told(t)
		for _, c := range calls(m) {
			done, _, _ := c.plain(m)
			for n := 0; ; n++ {
				s, j := x.quick(t)
				s.Fuse(n, nil, 0)
				if _, why := c.do(j); why != api.ErrOff {
					break
				}
				got := tell(j.Shape(), j.First(), j.End(), j.Safe(), j.Sets(), j.Chain(), j.Clients(), nil, nil)
				if was, is := face(m), face(done); got != was && got != is {
					t.Errorf("R3: %s, dead at deed %d, tells %s, neither %s nor %s", c.name, n, got, was, is)
				}
			}
		}
	}
}

// face is what calls without an Errno tell of m.
func face(m plain) string {
	return tell(m.shape, m.ahead+1, m.end(), m.safe, m.sets(), m.tags, m.clients, nil, nil)
}

// TestReadingPerformsNoDeeds (R7).
func TestReadingPerformsNoDeeds(t *testing.T) {
	for _, x := range stories() {
		s, j, m := x.told(t)
		was := untouched(s)
		for range 3 {
			j.Shape()
			j.First()
			j.End()
			j.Safe()
			j.Sets()
			j.Chain()
			j.Clients()
			j.Fits(1, 2, 90)
			j.Fits(0)
			j.Read(m.ahead, 99)
			j.Read(-1, 99)
		}
		is(t, "R7: what only reads", untouched(s), was)
		s.Fuse(0, nil, 0)
		alike(t, "R7: what only reads, on a fuse", s, j, m)
		is(t, "R7: the fuse is still in", s.On(), true)
	}
}

// TestExtremes: the greatest and the least int, and all limits, in every place of a number.
func TestExtremes(t *testing.T) {
	x := story{shape: two, at: 1, tags: first, calls: append(many(5, 6, 7), flushes(), adds(1, 2))}
	for _, a := range far() {
		s, j, m := x.told(t)
		for _, b := range far() {
			l := []call{adds(a, b), commits(a, b), turns(a, b > 0), drops(a), leads(api.Tag{ID: a, Owner: b}, api.Tag{ID: b, Heir: a, At: a}), leads(first[0], api.Tag{ID: 2, Owner: 1, At: a}, api.Tag{ID: 3, Heir: 2, At: b}), cuts(a)}
			for _, c := range l {
				if m.end() < 4 && c.name == "Cut to 1" {
					continue
				}
				m = does(t, s, j, m, c)
			}
			got, why := j.Read(a, b)
			want, must := m.read(a, b)
			is(t, fmt.Sprint("P16.3: Read of ", a, ", ", b), fmt.Sprint(got, why), fmt.Sprint(want, must))
			is(t, fmt.Sprint("P16.2: Fits of ", a, ", ", b), j.Fits(a, b), a >= 1 && a <= 90 && b >= 1 && b <= 90)
			journal.Make(store.New(a), api.Ring{Splay: a, Sets: b, Size: a}, b, []api.Tag{{ID: a, Owner: b, Heir: a, At: b}})
			why = journal.Make(store.New(api.MaxRoom), one, a, []api.Tag{{ID: 1, Owner: 1}, {ID: 2, Owner: 1, At: b}})
			is(t, fmt.Sprint("P16.1: Make at ", a, ", a tag at ", b), why == api.OK, a >= 0 && a <= 1<<40 && b >= 0 && b <= a)
		}
	}
}

// spare is b in memory that has room behind it, filled.
func spare[T any](b []T, with T) []T {
	l := append(slices.Clone(b), slices.Repeat([]T{with}, 9)...)
	return l[:len(b)]
}

func TestNothingHandedInIsChangedOrKept(t *testing.T) {
	data := spare([]byte("abc"), 'x')
	tags := spare([]api.Tag{{ID: 1, Owner: 1}, {ID: 2, Owner: 2, At: 1}}, api.Tag{ID: 3, Owner: 1, At: 1})
	sizes := spare([]int{1, 90}, 91)
	s := store.New(api.MaxRoom)
	is(t, "P16.1: Make", journal.Make(s, two, 1, tags), api.OK)
	j, _ := journal.Open(s)
	m := plain{shape: two, ahead: 1, tags: slices.Clone(tags), safe: 1}
	alike(t, "R5: Make", s, j, m)
	is(t, "R5: Fits", j.Fits(sizes...), true)
	m = does(t, s, j, m, call{"Append", func(j *journal.Journal) (int, api.Errno) { return j.Append(data) }, appends("abc").plain, least})
	l := spare([]api.Tag{{ID: 2, Owner: 2}, {ID: 9, Heir: 1, At: 2}}, api.Tag{ID: 3, Owner: 1, At: 2})
	m = does(t, s, j, m, call{"Lead", func(j *journal.Journal) (int, api.Errno) { return 0, j.Lead(l) }, leads(slices.Clone(l)...).plain, least})
	if string(data[:12]) != "abcxxxxxxxxx" || !slices.Equal(sizes[:11], append([]int{1, 90}, times(9, 91)...)) || len(tags) != 2 || len(l) != 2 {
		t.Error("R2: data or sizes were changed")
	}
	if tags[0] != (api.Tag{ID: 1, Owner: 1}) || tags[1].ID != 2 || l[0].ID != 2 || l[1].ID != 9 || !slices.Equal(tags[2:11], slices.Repeat([]api.Tag{{ID: 3, Owner: 1, At: 1}}, 9)) || !slices.Equal(l[2:11], slices.Repeat([]api.Tag{{ID: 3, Owner: 1, At: 2}}, 9)) {
		t.Error("R2: tags were changed")
	}
	for _, b := range [][]api.Tag{tags[:11], l[:11]} {
		for i := range b {
			b[i] = api.Tag{ID: 77, Owner: 2, At: 77}
		}
	}
	copy(data[:12], "spoilt spoilt")
	alike(t, "R2: what was handed in is kept", s, j, m)
	m = does(t, s, j, m, appends("y"))
	anew, _ := journal.Open(s)
	alike(t, "R2: what was handed in is kept in the store", s, anew, m.opened(3))
}

// spoil turns all of a list, its spare room too.
func spoil[T any](l []T, with T) {
	l = l[:cap(l)]
	for i := range l {
		l[i] = with
	}
}

func TestAnswersAreNewMemory(t *testing.T) {
	for _, x := range stories()[1:] {
		s, j, m := x.told(t)
		spoil(j.Chain(), api.Tag{ID: 9, Owner: 9})
		spoil(j.Clients(), api.Client{ID: 9, Pos: 9})
		l, _ := j.Read(m.ahead, 99)
		for i := range l {
			was := fmt.Sprint(l[:i], l[i+1:])
			spoil(l[i].Data, 'x')
			is(t, "R2: two lists of one answer share memory", fmt.Sprint(l[:i], l[i+1:]), was)
		}
		spoil(l, api.Entry{Tag: 3, Seq: 3})
		alike(t, "R2: an answer shares memory with the journal", s, j, m)
		m = does(t, s, j, m, appends("x"))
		m = does(t, s, j, m, adds(2, 0))
		m = does(t, s, j, m, cuts(m.end()-1))
		j, _ = journal.Open(s)
		alike(t, "R2: an answer shares memory with what is kept", s, j, m)
	}
}

// TestNilAndEmpty (R4).
func TestNilAndEmpty(t *testing.T) {
	s, j, m := story{shape: one, tags: first, calls: many(3)}.told(t)
	for _, b := range [][]byte{nil, {}, []byte("abc")[:0]} {
		n, why := j.Append(b)
		is(t, "R4: Append of none", why, api.ErrArg)
		is(t, "R4: Append of none", n, 0)
	}
	for _, l := range [][]api.Tag{nil, {}, slices.Clone(first)[:0]} {
		is(t, "R4: Lead of none", j.Lead(l), api.ErrArg)
		is(t, "R4: Make of none", journal.Make(store.New(999), one, 0, l), api.ErrArg)
	}
	is(t, "R4: Fits of none", j.Fits([]int{}...), true)
	alike(t, "R4: none", s, j, m)
}

// TestAgain (R4): the same calls lead to the same store, to the byte, and the same deeds.
func TestAgain(t *testing.T) {
	for _, x := range stories() {
		s, j, m := x.told(t)
		want := fmt.Sprint(untouched(s), tellOf(t, s, j))
		for range 20 {
			s, j := x.quick(t)
			is(t, "R4: again", fmt.Sprint(untouched(s), tellOf(t, s, j)), want)
		}
		for end := m.ahead; end <= m.end(); end++ {
			s, j := x.quick(t)
			y, k := x.quick(t)
			j.Cut(end)
			k.Cut(end)
			is(t, "R4: Cut again", untouched(s), untouched(y))
		}
	}
}

// TestRuns: the page's runs and examples.
func TestRuns(t *testing.T) {
	_, why := journal.Open(store.New(api.MaxRoom))
	is(t, "Open of an empty store", why, api.ErrNone)
	is(t, "Make of a zero Ring", journal.Make(store.New(api.MaxRoom), api.Ring{}, 0, first), api.ErrArg)
	_, j, _ := story{shape: one, at: 5, tags: first}.begun(t)
	is(t, "First of a new one at 5", j.First(), 6)
}

// TestOthersObjects: what isn't the journal's stays as it is, whatever is called.
func TestOthersObjects(t *testing.T) {
	x := stories()[3]
	s, j, m := x.told(t)
	others := []api.Key{{Kind: api.KHead}, {Kind: api.KData, Img: 1, Num: 3, Snap: 2}, {Kind: api.KLock}, {Kind: api.KNote}, {Kind: api.KEntry, Img: 2}, {Kind: api.KMeta, Img: 2}}
	for _, k := range others {
		s.Make(k)
		s.Append(k, []byte("others"))
		s.Set(k, "journal", []byte("theirs"))
	}
	for _, c := range []call{flushes(), trims(), appends("x"), cuts(m.end()), leads(m.tags...), adds(2, 0), cuts(m.ahead + 12)} {
		m = does(t, s, j, m, c)
	}
	j, _ = journal.Open(s)
	alike(t, "P16.1: beside others' objects", s, j, m)
	is(t, "P16.1: Wipe", journal.Wipe(s), api.OK)
	is(t, "P16.1: Make", journal.Make(s, one, math.MaxInt, first), api.ErrArg)
	is(t, "P16.1: Make", journal.Make(s, one, 1, first), api.OK)
	for _, k := range others {
		b, _ := s.Read(k, 0, 99)
		v, _ := s.Attr(k, "journal")
		if !bytes.Equal(b, []byte("others")) || string(v) != "theirs" {
			t.Errorf("%v: others' object: %q, %q", k, b, v)
		}
	}
}

// TestWrongRecord: a record that somebody else turned or cut is one of a journal, or none at all, which a Make takes the place of; no call panics, and what is opened once is opened twice.
func TestWrongRecord(t *testing.T) {
	x := story{shape: two, at: 2, tags: both[:1], calls: append(many(5, 6, 7), flushes(), adds(1, 3), leads(both...))}
	s, _, _ := x.told(t)
	k := api.Key{Kind: api.KMeta}
	record, why := s.Attr(k, "journal")
	is(t, "the record", why, api.OK)
	wrong := [][]byte{nil, {0}, {1}, bytes.Repeat([]byte{255}, 512), make([]byte, 512), bytes.Repeat([]byte{1}, 4096), bytes.Repeat([]byte{127}, 64)}
	for i := range 40 {
		wrong = append(wrong, record[:i])
		for c := range 255 {
			b := slices.Clone(record)
			b[i] ^= byte(c + 1)
			wrong = append(wrong, b)
		}
	}
	none := 0
	for _, b := range wrong {
		s := s.Twin()
		is(t, "a record from elsewhere", s.Set(k, "journal", b), api.OK)
		j, why := journal.Open(s)
		if why == api.ErrNone {
			none++
			is(t, "P16.1: Make where no record is", journal.Make(s, one, 3, first), api.OK)
			j, why = journal.Open(s)
			is(t, "P16.1: Open", why, api.OK)
			alike(t, "P16.1: Make where no record is", s, j, plain{shape: one, ahead: 3, tags: first, safe: 3})
			continue
		}
		is(t, "P16.1: Open of a record from elsewhere", why, api.OK)
		was := tellOf(t, s, j)
		j, _ = journal.Open(s)
		is(t, "P16.6: opened twice", tellOf(t, s, j), was)
		is(t, "P16.2: Fits", j.Fits(1), true)
		refusals(j)
	}
	if none < 100 {
		t.Errorf("a wrong record was none %d times", none)
	}
}
