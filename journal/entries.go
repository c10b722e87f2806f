package journal

import (
	"bytes"

	"hectograph/api"
	"hectograph/chain"
	"hectograph/client"
	"hectograph/frame"
	"hectograph/ring"
	"hectograph/scan"
	"hectograph/store"
)

// spot is where an entry's frame lies: from which byte to which of an object.
type spot struct {
	place    api.Place
	from, to int
}

// ready tells whether there is a store that has power.
func ready(s *store.Store) api.Errno {
	switch {
	case s == nil:
		return api.ErrArg
	case !s.On():
		return api.ErrOff
	}
	return api.OK
}

// drop takes these objects away, dry; of none it does nothing.
func drop(s *store.Store, l []api.Key) api.Errno {
	if len(l) == 0 {
		return api.OK
	}
	for _, k := range l {
		if why := s.Drop(k); why != api.OK {
			return why
		}
	}
	return s.Barrier()
}

// none tells whether j is no journal: nil, or one that Open didn't answer.
func (j *Journal) none() bool {
	return j == nil || j.s == nil
}

// refused is what all calls refuse first.
func (j *Journal) refused() api.Errno {
	if j.none() {
		return api.ErrArg
	}
	if j.dead {
		return api.ErrOff
	}
	return j.told(ready(j.s))
}

// told is why; behind an ErrOff j is dead.
func (j *Journal) told(why api.Errno) api.Errno {
	if why == api.ErrOff {
		j.dead = true
	}
	return why
}

// find takes up the entries that are there one behind the other, as long as each is of its tag and lies in its place.
func (j *Journal) find() {
	var all [][]byte
	rows := map[api.Key][]byte{}
	for _, k := range j.s.Keys(api.KEntry, 0) {
		rows[k], _ = j.s.Read(k, 0, api.MaxObject)
		all = append(all, rows[k])
	}
	for _, e := range scan.Merge(all, j.rec.first) {
		f, x, ok := j.next(len(e.Data))
		if !ok || e.Tag != chain.Of(j.rec.tags, e.Seq) || !lies(e, rows[j.rec.key(x.place)], x) {
			return
		}
		j.spots, j.fill = append(j.spots, x), f
	}
}

// lies tells whether e's frame is what the row has at x.
func lies(e api.Entry, row []byte, x spot) bool {
	b, _ := frame.Lay(e)
	return x.to <= len(row) && bytes.Equal(row[x.from:x.to], b)
}

// next is how full the last set is with an entry of n bytes behind End, and where that lies; false, if there is no such number, or no set for it.
func (j *Journal) next(n int) (api.Fill, spot, bool) {
	f, p, _ := ring.Put(j.rec.shape, j.fill, j.End()+1, n)
	if f == (api.Fill{}) || f.Set-j.rec.set >= j.rec.shape.Sets {
		return api.Fill{}, spot{}, false
	}
	to := f.Used[p.Obj]
	return f, spot{p, to - frame.Size(n), to}, true
}

// lay lays the frame b at x, in a new object, if it is the first one there.
func (j *Journal) lay(x spot, b []byte) api.Errno {
	k := j.rec.key(x.place)
	if x.from == 0 {
		if why := j.s.Make(k); why != api.OK {
			return why
		}
	}
	return j.s.Append(k, b)
}

// cut is Cut of an end that may be.
func (j *Journal) cut(end int) api.Errno {
	l := j.spots[:end-(j.rec.first-1)]
	// The entries are gone, and dry, ahead of what the record has beyond end: where the power goes between, Open takes that away as this does.
	if why := j.clean(l); why != api.OK {
		return why
	}
	r := j.rec.cut(end)
	if why := keep(j.s, r); why != api.OK {
		return why
	}
	j.rec, j.safe = r, end
	j.settle(l)
	return api.OK
}

// settle makes the entries that lie at l, which may be none, all that there are.
func (j *Journal) settle(l []spot) {
	j.spots, j.fill = append([]spot(nil), l...), api.Fill{Set: j.rec.set}
	for _, x := range l {
		if x.place.Set != j.fill.Set {
			j.fill = api.Fill{Set: x.place.Set}
		}
		j.fill.Used[x.place.Obj] = x.to
	}
}

// clean leaves in the store the entries that lie at l alone, dry: what an object has behind these is gone, and so is one that has none of them.
func (j *Journal) clean(l []spot) api.Errno {
	ends := map[api.Key]int{}
	for _, x := range l {
		ends[j.rec.key(x.place)] = x.to
	}
	for _, k := range j.s.Keys(api.KEntry, 0) {
		if why := shorten(j.s, k, ends[k]); why != api.OK {
			return why
		}
	}
	return j.s.Barrier()
}

// shorten leaves the object's first n bytes; of none it is gone.
func shorten(s *store.Store, k api.Key, n int) api.Errno {
	if n == 0 {
		return s.Drop(k)
	}
	size, why := s.Size(k)
	if why != api.OK || size <= n {
		return why
	}
	return s.Trim(k, n)
}

// keep makes r the record, dry.
func (j *Journal) keep(r record) api.Errno {
	if why := j.told(keep(j.s, r)); why != api.OK {
		return why
	}
	j.rec = r
	return api.OK
}

// turned keeps the clients l that a call of client's answered, unless it refused, or pos is above End.
func (j *Journal) turned(l []api.Client, why api.Errno, pos int) api.Errno {
	if why != api.ErrArg && pos > j.End() {
		return api.ErrRange
	}
	if why != api.OK {
		return why
	}
	r := j.rec
	r.clients = l
	return j.keep(r)
}

// idle is how many entries the first sets have that Trim takes away.
func (j *Journal) idle() int {
	pos := j.safe
	if slowest, some := client.Slowest(j.rec.clients); some {
		pos = min(pos, slowest)
	}
	n := 0
	for i := 1; i < len(j.spots) && j.rec.first-1+i <= pos; i++ {
		if j.spots[i].place.Set != j.spots[i-1].place.Set {
			n = i
		}
	}
	return n
}
