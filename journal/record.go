package journal

import (
	"hectograph/api"
	"hectograph/bits"
	"hectograph/chain"
	"hectograph/client"
	"hectograph/ring"
	"hectograph/store"
)

const (
	recordName = "journal"
	// recordLong is more bytes than the longest record needs. All have as many: one takes the place of another in a full store too.
	recordLong = 512
	lastSet    = 1<<30 - 1 // the number of the last set that ring.Put goes on from
)

// record is what a journal keeps beside its entries. It lies in one attribute, which no Fall tears. Its lists are never written again: another record has lists of its own.
type record struct {
	shape   api.Ring
	first   int // the number of the first entry, be it there or not
	set     int // the set that begins with that one
	tags    []api.Tag
	clients []api.Client
}

// recordKey names the object whose attribute the record is.
func recordKey() api.Key {
	return api.Key{Kind: api.KMeta}
}

// load is the record of the journal that is there; false, if there is none.
func load(s *store.Store) (record, bool) {
	b, why := s.Attr(recordKey(), recordName)
	if why != api.OK {
		return record{}, false
	}
	return getRecord(b)
}

// keep makes r the record, dry.
func keep(s *store.Store, r record) api.Errno {
	if why := s.Set(recordKey(), recordName, r.put()); why != api.OK {
		return why
	}
	return s.Barrier()
}

// put is r in bytes, noughts behind it.
func (r record) put() []byte {
	b := []byte(nil)
	for _, n := range [...]int{r.shape.Splay, r.shape.Sets, r.shape.Size, r.first, r.set} {
		b = bits.Var(b, n)
	}
	tags, _ := chain.Put(r.tags)
	clients, _ := client.Put(r.clients)
	b = bits.Text(bits.Text(b, string(tags)), string(clients))
	return append(b, make([]byte, recordLong-len(b))...)
}

// getRecord is the record whose put is b; false, if b begins with none that a journal may have.
func getRecord(b []byte) (record, bool) {
	var r record
	at := 0
	for _, p := range [...]*int{&r.shape.Splay, &r.shape.Sets, &r.shape.Size, &r.first, &r.set} {
		*p, at, _ = bits.GetVar(b, at)
	}
	tags, at, _ := bits.GetText(b, at, recordLong)
	clients, _, _ := bits.GetText(b, at, recordLong)
	var why, why2 api.Errno
	r.tags, why = chain.Get([]byte(tags))
	r.clients, why2 = client.Get([]byte(clients))
	if why != api.OK || why2 != api.OK || !ring.Right(r.shape) || r.first < 1 || r.first > api.MaxSeq+1 || r.set > lastSet {
		return record{}, false
	}
	return r, true
}

// cut is r as it is of a journal that ends at end: without tags that begin behind that, and with no client beyond it.
func (r record) cut(end int) record {
	r.tags = chain.Cut(r.tags, end)
	r.clients = append([]api.Client(nil), r.clients...)
	for i, c := range r.clients {
		r.clients[i].Pos = min(c.Pos, end)
	}
	return r
}

// key names the object that holds what lies at p.
func (r record) key(p api.Place) api.Key {
	return api.Key{Kind: api.KEntry, Num: ring.Num(r.shape, p)}
}
