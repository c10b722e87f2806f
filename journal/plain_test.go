package journal_test

import (
	"encoding/binary"
	"fmt"
	"hash/crc32"
	"slices"
	"sort"
	"strconv"
	"strings"
	"testing"

	"hectograph/api"
	"hectograph/journal"
	"hectograph/store"
)

// plain is a journal as the page has it, slow and plain. Nothing of it is ever changed: each call makes another one.
type plain struct {
	shape   api.Ring
	ahead   int // how many entries are ahead of the first one that it may have
	base    int // the number of the first set
	entries []api.Entry
	tags    []api.Tag
	clients []api.Client
	safe    int
}

func (m plain) end() int { return m.ahead + len(m.entries) }

// place is where an entry lies: the set, the object in it, from which byte on.
type place struct{ set, obj, at int }

// places is where the entries lie, reckoned as the page of the ring has it.
func (m plain) places() []place {
	var l []place
	set, used := m.base, [api.MaxSplay]int{}
	for _, e := range m.entries {
		obj, n := e.Seq%m.shape.Splay, 22+len(e.Data)
		if used[obj]+n > m.shape.Size {
			set, used = set+1, [api.MaxSplay]int{}
		}
		l = append(l, place{set, obj, used[obj]})
		used[obj] += n
	}
	return l
}

func (m plain) sets() int {
	if len(m.entries) == 0 {
		return 1
	}
	l := m.places()
	return l[len(l)-1].set - m.base + 1
}

// num is the number of the object that p is in.
func (m plain) num(p place) int { return p.set%m.shape.Sets*m.shape.Splay + p.obj }

// rows is the objects of entries, by their numbers.
func (m plain) rows() map[int]string {
	l := map[int]string{}
	for i, p := range m.places() {
		l[m.num(p)] += laid(m.entries[i])
	}
	return l
}

// laid is an entry's frame.
func laid(e api.Entry) string {
	b := binary.LittleEndian.AppendUint32([]byte("HGJE"), uint32(e.Tag))
	b = binary.LittleEndian.AppendUint64(b, uint64(e.Seq))
	b = binary.LittleEndian.AppendUint16(b, uint16(len(e.Data)))
	b = append(b, e.Data...)
	return string(binary.LittleEndian.AppendUint32(b, crc32.Checksum(b, crc32.MakeTable(crc32.Castagnoli))))
}

// there is up to which entry all are in these rows, whole and in their places, one behind the other.
func (m plain) there(rows map[int]string) int {
	for i, p := range m.places() {
		if row := rows[m.num(p)]; len(row) < p.at || !strings.HasPrefix(row[p.at:], laid(m.entries[i])) {
			return m.ahead + i
		}
	}
	return m.end()
}

// of is the tag that an entry of that number has.
func of(tags []api.Tag, seq int) int {
	id := 0
	for _, t := range tags {
		if t.At < seq {
			id = t.ID
		}
	}
	return id
}

func (m plain) append(data string) (plain, api.Errno) {
	if len(data) < 1 || len(data) > 90 {
		return m, api.ErrArg
	}
	x := m
	x.entries = append(slices.Clone(m.entries), api.Entry{Tag: of(m.tags, m.end()+1), Seq: m.end() + 1, Data: []byte(data)})
	if m.end() == 1<<40 || x.sets() > m.shape.Sets {
		return m, api.ErrFull
	}
	return x, api.OK
}

// fits goes by sets alone, whatever MaxSeq is.
func (m plain) fits(sizes []int) bool {
	m.entries = slices.Clone(m.entries)
	for _, n := range sizes {
		if n < 1 || n > 90 {
			return false
		}
		m.entries = append(m.entries, api.Entry{Seq: m.end() + 1, Data: make([]byte, n)})
	}
	return m.sets() <= m.shape.Sets
}

func (m plain) flush() plain {
	m.safe = m.end()
	return m
}

// opened is m opened anew, where the entries up to end are there.
func (m plain) opened(end int) plain {
	m.entries = m.entries[:end-m.ahead]
	var tags []api.Tag
	for _, t := range m.tags {
		if t.At <= end {
			tags = append(tags, t)
		}
	}
	var clients []api.Client
	for _, c := range m.clients {
		c.Pos = min(c.Pos, end)
		clients = append(clients, c)
	}
	m.tags, m.clients, m.safe = tags, clients, end
	return m
}

func (m plain) cut(end int) (plain, api.Errno) {
	if end < m.ahead || end > m.end() {
		return m, api.ErrRange
	}
	return m.opened(end), api.OK
}

func (m plain) lead(tags []api.Tag) (plain, api.Errno) {
	if !isChain(tags) {
		return m, api.ErrArg
	}
	for seq := m.ahead + 1; seq <= m.end(); seq++ {
		if of(tags, seq) != of(m.tags, seq) {
			return m, api.ErrArg
		}
	}
	m.tags = slices.Clone(tags)
	return m, api.OK
}

func isChain(l []api.Tag) bool {
	ids := map[int]int{}
	for i, t := range l {
		ids[t.ID]++
		who := t.Owner == 0 && (t.Heir == 1 || t.Heir == 2) || (t.Owner == 1 || t.Owner == 2) && t.Heir == 0
		if !who || t.ID < 1 || t.ID > 1<<30 || ids[t.ID] > 1 || t.At < 0 || t.At > 1<<40 || i == 0 && t.At > 0 || i > 0 && t.At < l[i-1].At {
			return false
		}
	}
	return len(l) >= 1 && len(l) <= 32
}

// client is a call for the client id; change: what it does to the one that is there; nil of the call that lays a new one.
func (m plain) client(id, pos int, change func(api.Client) []api.Client) (plain, api.Errno) {
	if id < 1 || id > 1<<30 || pos < 0 || pos > 1<<40 {
		return m, api.ErrArg
	}
	if pos > m.end() {
		return m, api.ErrRange
	}
	n := slices.IndexFunc(m.clients, func(c api.Client) bool { return c.ID == id })
	l := slices.Clone(m.clients)
	switch {
	case change == nil && n >= 0:
		return m, api.ErrThere
	case change == nil && len(l) == 4:
		return m, api.ErrFull
	case change == nil:
		l = append(l, api.Client{ID: id, Pos: pos})
		sort.Slice(l, func(a, b int) bool { return l[a].ID < l[b].ID })
	case n < 0:
		return m, api.ErrNone
	default:
		l = slices.Replace(l, n, n+1, change(l[n])...)
	}
	m.clients = l
	return m, api.OK
}

func (m plain) trim() (plain, int) {
	pos := m.safe
	for _, c := range m.clients {
		if !c.Off {
			pos = min(pos, c.Pos)
		}
	}
	gone := 0
	for m.sets() > 1 {
		n := 0
		for _, p := range m.places() {
			if p.set == m.base {
				n++
			}
		}
		if m.ahead+n > pos {
			break
		}
		m.ahead, m.base, m.entries = m.ahead+n, m.base+1, m.entries[n:]
		gone += n
	}
	return m, gone
}

func (m plain) read(pos, most int) ([]api.Entry, api.Errno) {
	switch {
	case pos < 0 || pos > m.end() || most < 0:
		return nil, api.ErrRange
	case pos < m.ahead:
		return nil, api.ErrTrimmed
	}
	l := m.entries[pos-m.ahead:]
	return l[:min(most, len(l))], api.OK
}

// tell is all that can be seen of a journal, and of its entries in the store.
func tell(shape api.Ring, first, end, safe, sets int, tags []api.Tag, clients []api.Client, l []api.Entry, rows map[int]string) string {
	b := fmt.Appendln(nil, shape, "first", first, "end", end, "safe", safe, "sets", sets, tags, clients)
	for _, e := range l {
		b = append(strconv.AppendInt(strconv.AppendInt(b, int64(e.Tag), 10), int64(e.Seq), 10), ": "...)
		b = append(append(b, e.Data...), '\n')
	}
	for num := range 64 {
		if row, there := rows[num]; there {
			b = append(strconv.AppendInt(b, int64(num), 10), ": "...)
			b = append(append(b, row...), '\n')
		}
	}
	return string(b)
}

func (m plain) tell() string {
	return tell(m.shape, m.ahead+1, m.end(), m.safe, m.sets(), m.tags, m.clients, m.entries, m.rows())
}

// rowsOf is the store's objects of entries, by their numbers.
func rowsOf(t *testing.T, s *store.Store) map[int]string {
	t.Helper()
	rows := map[int]string{}
	for _, k := range s.Keys(api.KEntry, 0) {
		b, why := s.Read(k, 0, api.MaxObject)
		if why != api.OK || k.Snap != 0 || k.Num >= 32 {
			t.Errorf("P16.1: an object %v: %v", k, why)
		}
		rows[k.Num] = string(b)
	}
	return rows
}

func tellOf(t *testing.T, s *store.Store, j *journal.Journal) string {
	t.Helper()
	l, why := j.Read(j.First()-1, api.MaxSeq)
	is(t, "P16.3: Read of all", why, api.OK)
	return tell(j.Shape(), j.First(), j.End(), j.Safe(), j.Sets(), j.Chain(), j.Clients(), l, rowsOf(t, s))
}

// alike holds j and its store against m.
func alike(t *testing.T, what string, s *store.Store, j *journal.Journal, m plain) {
	t.Helper()
	if got, want := tellOf(t, s, j), m.tell(); got != want {
		t.Fatalf("%s: is\n%q\nmust be\n%q", what, got, want)
	}
}

func is[T comparable](t *testing.T, what string, got, want T) {
	t.Helper()
	if got != want {
		t.Errorf("%s: %v, must be %v", what, got, want)
	}
}

// call is a call of a journal: what it tells, and what the plain one makes of it and tells.
type call struct {
	name  string
	do    func(*journal.Journal) (int, api.Errno)
	plain func(plain) (plain, int, api.Errno)
	least func(plain) int // how far the entries go back at most, where the power goes within it
}

func least(m plain) int { return m.safe }

func appends(data string) call {
	return call{fmt.Sprintf("Append of %d", len(data)),
		func(j *journal.Journal) (int, api.Errno) { return j.Append([]byte(data)) },
		func(m plain) (plain, int, api.Errno) {
			x, why := m.append(data)
			if why != api.OK {
				return x, 0, why
			}
			return x, x.end(), why
		}, least}
}

func flushes() call {
	return call{"Flush", func(j *journal.Journal) (int, api.Errno) { return 0, j.Flush() },
		func(m plain) (plain, int, api.Errno) { return m.flush(), 0, api.OK }, least}
}

func cuts(end int) call {
	return call{fmt.Sprint("Cut to ", end), func(j *journal.Journal) (int, api.Errno) { return 0, j.Cut(end) },
		func(m plain) (plain, int, api.Errno) { x, why := m.cut(end); return x, 0, why },
		func(m plain) int { return min(m.safe, end) }}
}

func leads(tags ...api.Tag) call {
	return call{fmt.Sprint("Lead of ", tags), func(j *journal.Journal) (int, api.Errno) { return 0, j.Lead(tags) },
		func(m plain) (plain, int, api.Errno) { x, why := m.lead(tags); return x, 0, why }, least}
}

func adds(id, pos int) call {
	return call{fmt.Sprint("Add of ", id, ", ", pos), func(j *journal.Journal) (int, api.Errno) { return 0, j.Add(id, pos) },
		func(m plain) (plain, int, api.Errno) { x, why := m.client(id, pos, nil); return x, 0, why }, least}
}

func drops(id int) call {
	gone := func(api.Client) []api.Client { return nil }
	return call{fmt.Sprint("Drop of ", id), func(j *journal.Journal) (int, api.Errno) { return 0, j.Drop(id) },
		func(m plain) (plain, int, api.Errno) { x, why := m.client(id, 0, gone); return x, 0, why }, least}
}

func commits(id, pos int) call {
	on := func(c api.Client) []api.Client { c.Pos = max(c.Pos, pos); return []api.Client{c} }
	return call{fmt.Sprint("Commit of ", id, ", ", pos), func(j *journal.Journal) (int, api.Errno) { return 0, j.Commit(id, pos) },
		func(m plain) (plain, int, api.Errno) { x, why := m.client(id, pos, on); return x, 0, why }, least}
}

func turns(id int, off bool) call {
	turned := func(c api.Client) []api.Client { c.Off = off; return []api.Client{c} }
	return call{fmt.Sprint("Turn of ", id, ", ", off), func(j *journal.Journal) (int, api.Errno) { return 0, j.Turn(id, off) },
		func(m plain) (plain, int, api.Errno) { x, why := m.client(id, 0, turned); return x, 0, why }, least}
}

func trims() call {
	return call{"Trim", func(j *journal.Journal) (int, api.Errno) { return j.Trim() },
		func(m plain) (plain, int, api.Errno) { x, n := m.trim(); return x, n, api.OK }, least}
}

// does does the call, and holds what it told, and what is there then, against the plain one.
func does(t *testing.T, s *store.Store, j *journal.Journal, m plain, c call) plain {
	t.Helper()
	n, why := c.do(j)
	x, want, wantWhy := c.plain(m)
	if n != want || why != wantWhy {
		t.Fatalf("%s: told %d, %v, must be %d, %v; of\n%q", c.name, n, why, want, wantWhy, m.tell())
	}
	alike(t, c.name, s, j, x)
	return x
}

// story is how a journal came to be what it is.
type story struct {
	name  string
	shape api.Ring
	at    int
	tags  []api.Tag
	calls []call
}

// begun is a journal that was just made, and the plain one.
func (x story) begun(t *testing.T) (*store.Store, *journal.Journal, plain) {
	t.Helper()
	s := store.New(api.MaxRoom)
	if why := journal.Make(s, x.shape, x.at, x.tags); why != api.OK {
		t.Fatalf("P16.1: Make of %v at %d: %v", x.shape, x.at, why)
	}
	j, why := journal.Open(s)
	if why != api.OK {
		t.Fatalf("P16.1: Open: %v", why)
	}
	return s, j, plain{shape: x.shape, ahead: x.at, tags: x.tags, safe: x.at}
}

// told is the journal as it is behind all of the story.
func (x story) told(t *testing.T) (*store.Store, *journal.Journal, plain) {
	t.Helper()
	s, j, m := x.begun(t)
	for _, c := range x.calls {
		m = does(t, s, j, m, c)
	}
	return s, j, m
}

// quick is told without holding anything against anything.
func (x story) quick(t *testing.T) (*store.Store, *journal.Journal) {
	t.Helper()
	s, j, _ := x.begun(t)
	for _, c := range x.calls {
		c.do(j)
	}
	return s, j
}

// fill is n bytes that hang on seed.
func fill(seed, n int) string {
	b := make([]byte, n)
	for i := range b {
		b[i] = byte(seed*31 + i*7)
	}
	return string(b)
}

// many is calls that append entries of these sizes.
func many(sizes ...int) []call {
	var l []call
	for i, n := range sizes {
		l = append(l, appends(fill(i+n, n)))
	}
	return l
}

// times is n sizes alike.
func times(count, n int) []int {
	return slices.Repeat([]int{n}, count)
}
