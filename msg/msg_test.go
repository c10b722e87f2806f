package msg_test

import (
	"bytes"
	"encoding/binary"
	"fmt"
	"hash/crc32"
	"math"
	"math/rand"
	"regexp"
	"slices"
	"strings"
	"testing"

	"hectograph/api"
	"hectograph/msg"
)

// entry is an entry of tag 1, its Data one byte.
func entry(seq int) api.Entry {
	return api.Entry{Tag: 1, Seq: seq, Data: []byte{8}}
}

// run is so many entries, their Seqs one by one from first on.
func run(first, count int) []api.Entry {
	var l []api.Entry
	for i := range count {
		l = append(l, entry(first+i))
	}
	return l
}

// seqs is entries of those Seqs.
func seqs(l ...int) []api.Entry {
	var out []api.Entry
	for _, n := range l {
		out = append(out, entry(n))
	}
	return out
}

func mark(id int, name string, size int) api.Mark {
	return api.Mark{ID: id, Name: name, Size: size}
}

func gone(id int, name string, size int) api.Mark {
	return api.Mark{ID: id, Name: name, Size: size, Gone: true}
}

// marks is so many marks, all alike but for their numbers.
func marks(count int) []api.Mark {
	var l []api.Mark
	for i := range count {
		l = append(l, api.Mark{ID: i + 1, Name: "~m", Size: i, Gone: i%2 == 0})
	}
	return l
}

// lone is the shortest chain, tags a chain of so many tags, wide the longest one in bytes.
func lone() []api.Tag {
	return []api.Tag{{ID: 1, Owner: 1}}
}

func tags(count int) []api.Tag {
	var l []api.Tag
	for i := range count {
		l = append(l, api.Tag{ID: 100 + i, Owner: i % 3, At: 7 * i})
		if i%3 == 0 {
			l[i].Heir = 1 + i%2
		}
	}
	return l
}

func wide() []api.Tag {
	l := tags(32)
	for i := range l {
		l[i].ID = 1<<30 - i
		if i > 0 {
			l[i].At = 1 << 40
		}
	}
	return l
}

// far is numbers that are nowhere near a limit, those among them whose lowest bits are a number that may be, or which an addition may carry over the edge.
func far() []int {
	return []int{math.MinInt, math.MinInt + 1, math.MinInt + api.MaxSize, math.MinInt + api.MaxSeq, -api.MaxSeq, -api.MaxID, -api.MaxSize, math.MinInt32, -1 << 32, 1<<41 + 1, 1 << 62, 1<<62 + 3, math.MaxInt - api.MaxSeq, math.MaxInt - 1, math.MaxInt}
}

// edges is numbers at all edges that the document names, and far off.
func edges() []int {
	return append(far(), -2, -1, 0, 1, 2, 12, 13, 14, 15, 16, 17, 18, 127, 128, 255, 256, 257, 511, 512, 513, 514, 1<<30-1, 1<<30, 1<<30+1, 1<<32, 1<<32+1, 1<<32+13, 1<<40-1, 1<<40, 1<<40+1, 1<<40+2)
}

// base is a message of each Kind that may be.
func base(kind int) api.Msg {
	m := api.Msg{Kind: kind, Nonce: 5}
	switch kind {
	case api.MFetch:
		m.Pos, m.End = 9, 300
	case api.MBatch:
		m.Pos, m.End, m.Chain, m.Entries = 9, 300, lone(), run(10, 2)
	case api.MInfo:
		m.Pos, m.Chain, m.Marks = 9, lone(), []api.Mark{mark(3, "a", 2), gone(3, "~b", 200)}
	case api.MGet:
		m.Stage, m.Num = 2, 200
	case api.MPart:
		m.Stage, m.Num, m.Data = 2, 200, []byte("abc")
	case api.MNo:
		m.Num = 6
	}
	return m
}

// bases is one of each Kind.
func bases() []api.Msg {
	var l []api.Msg
	for kind := 1; kind <= 9; kind++ {
		l = append(l, base(kind))
	}
	return l
}

// batch, info and part are messages of those lists, the first entry behind Pos 9.
func batch(l ...api.Entry) api.Msg {
	m := base(api.MBatch)
	m.Entries = l
	return m
}

func info(l ...api.Mark) api.Msg {
	m := base(api.MInfo)
	m.Marks = l
	return m
}

func part(data []byte) api.Msg {
	m := base(api.MPart)
	m.Data = data
	return m
}

// chained is a batch and an info of that chain.
func chained(l []api.Tag) []api.Msg {
	a, b := base(api.MBatch), base(api.MInfo)
	a.Chain, b.Chain = l, l
	return []api.Msg{a, b}
}

// right is messages that may be, the edges among them.
func right() []api.Msg {
	twelve := strings.Repeat("z", 12)
	l := append(bases(), batch(), batch(run(10, 1)...), batch(run(10, 4)...), info(marks(1)...), info(marks(17)...), part(nil), part([]byte{0}), part(bytes.Repeat([]byte{255}, 64)))
	for _, kind := range []int{api.MFetch, api.MStart, api.MDone, api.MOver} {
		l = append(l, api.Msg{Kind: kind, Nonce: 1}, api.Msg{Kind: kind, Nonce: 1 << 40})
	}
	l = append(l, chained(tags(32))...)
	l = append(l, chained(wide())...)
	l = append(l, chained([]api.Tag{{ID: 1 << 30, Heir: 2}, {ID: 1, Owner: 2}})...)
	return append(l,
		api.Msg{Kind: api.MFetch, Nonce: 127, Pos: 1 << 40, End: 1 << 40}, api.Msg{Kind: api.MFetch, Nonce: 128, End: 1}, api.Msg{Kind: api.MFetch, Nonce: 129, Pos: 1},
		api.Msg{Kind: api.MBatch, Nonce: 1, Chain: lone(), Entries: run(1, 4)}, api.Msg{Kind: api.MBatch, Nonce: 1 << 40, Pos: 1<<40 - 4, End: 1 << 40, Chain: wide(), Entries: run(1<<40-3, 4)}, api.Msg{Kind: api.MBatch, Nonce: 1, Pos: 1 << 40, Chain: lone()},
		batch(api.Entry{Tag: 1 << 30, Seq: 10, Data: bytes.Repeat([]byte{'H'}, 90)}, api.Entry{Tag: 1, Seq: 11, Data: []byte("HGJE")}), batch(api.Entry{Tag: 7, Seq: 10, Data: make([]byte, 90)}),
		api.Msg{Kind: api.MInfo, Nonce: 1, Chain: lone(), Marks: []api.Mark{mark(1, "-", 0)}}, api.Msg{Kind: api.MInfo, Nonce: 1 << 40, Pos: 1 << 40, Chain: wide(), Marks: []api.Mark{gone(1<<30, "~"+twelve, 512), mark(1, twelve, 512)}},
		info(mark(9, "a", 1), mark(3, "a", 1), mark(9, "a", 1)), info(gone(1, "~a", 0), mark(1, "~a", 0), gone(1, "~a", 0)),
		api.Msg{Kind: api.MGet, Nonce: 1}, api.Msg{Kind: api.MGet, Nonce: 1, Stage: 16, Num: 512}, api.Msg{Kind: api.MPart, Nonce: 1}, api.Msg{Kind: api.MPart, Nonce: 1, Stage: 16, Num: 512, Data: make([]byte, 64)},
		api.Msg{Kind: api.MNo, Nonce: 1, Num: 1}, api.Msg{Kind: api.MNo, Nonce: 1 << 40, Num: 13},
	)
}

// wrong is messages that may not be: each number at its edge and far off, and lists that may not be.
func wrong() []api.Msg {
	l := []api.Msg{{}, {Nonce: 1}, {Kind: -1, Nonce: 1}, {Kind: 10, Nonce: 1}, {Kind: 256 + api.MStart, Nonce: 1}, {Kind: 1<<32 + api.MStart, Nonce: 1}, {Kind: math.MinInt, Nonce: 1}, {Kind: math.MaxInt, Nonce: 1}}
	for _, m := range bases() {
		for _, n := range []int{math.MinInt, -1, 0, 1<<40 + 1, math.MaxInt} {
			m.Nonce = n
			l = append(l, m)
		}
	}
	l = append(l, info(), info(marks(18)...), info(marks(1<<10)...), batch(run(10, 5)...), batch(run(10, 1<<10)...), part(make([]byte, 65)), part(make([]byte, 1<<16)), api.Msg{Kind: api.MBatch, Nonce: 1}, api.Msg{Kind: api.MInfo, Nonce: 1}, api.Msg{Kind: api.MNo, Nonce: 1})
	for _, c := range [][]api.Tag{nil, {}, {{}}, {{ID: 1, Owner: 1, At: 1}}, {{ID: 1}}, {{ID: 1, Owner: 1, Heir: 1}}, {{ID: 1, Owner: 3}}, {{ID: 1<<30 + 1, Owner: 1}}, {{ID: 1, Owner: 1}, {ID: 1, Owner: 2}}, {{ID: 1, Owner: 1}, {ID: 2, Owner: 1, At: 5}, {ID: 3, Owner: 1, At: 4}}, {{ID: 1, Owner: 1}, {ID: 2, Owner: 1, At: 1<<40 + 1}}, tags(33), tags(129)} {
		l = append(l, chained(c)...)
	}
	for _, e := range [][]api.Entry{seqs(9), seqs(11), seqs(8), seqs(0), seqs(-10), seqs(10, 10), seqs(10, 12), seqs(11, 12), seqs(11, 10), seqs(10, 11, 13), seqs(10, 11, 11), seqs(10, 11, 12, 14), seqs(9, 10), {{}}, {{Seq: 10, Data: []byte{1}}}, {{Tag: 1<<30 + 1, Seq: 10, Data: []byte{1}}}, {{Tag: 1, Seq: 10}}, {{Tag: 1, Seq: 10, Data: make([]byte, 91)}}, {entry(10), {Tag: 1, Seq: 11}}} {
		l = append(l, batch(e...))
	}
	last := base(api.MBatch)
	last.Pos, last.Entries = 1<<40, seqs(1<<40+1)
	l = append(l, last)
	for _, x := range []api.Mark{{}, mark(0, "a", 1), mark(-1, "a", 1), mark(1<<30+1, "a", 1), mark(1<<32+1, "a", 1), mark(1, "a", -1), mark(1, "a", 513), mark(1, "a", 1<<32), mark(1, "", 1), mark(1, "~", 1), mark(1, "~~a", 1), mark(1, "a~", 1), mark(1, "A", 1), mark(1, strings.Repeat("a", 13), 1), mark(1, "~"+strings.Repeat("a", 13), 1)} {
		l = append(l, info(x), info(x, mark(1, "a", 1)), info(mark(1, "a", 1), x))
	}
	return l
}

// letters is which fields but Kind and Nonce a message of that Kind may have.
func letters(kind int) string {
	return map[int]string{api.MFetch: "pe", api.MBatch: "pecl", api.MInfo: "pcm", api.MGet: "sn", api.MPart: "snd", api.MNo: "n"}[kind]
}

var named = regexp.MustCompile(`^~?[a-z0-9-]{1,12}$`)

// legal is what Right should tell, put otherwise than there.
func legal(m api.Msg) bool {
	there := map[byte]bool{'p': m.Pos != 0, 'e': m.End != 0, 's': m.Stage != 0, 'n': m.Num != 0, 'c': len(m.Chain) > 0, 'l': len(m.Entries) > 0, 'm': len(m.Marks) > 0, 'd': len(m.Data) > 0}
	for field, is := range there {
		if is && !strings.Contains(letters(m.Kind), string(field)) {
			return false
		}
	}
	if m.Kind < 1 || m.Kind > 9 || m.Nonce < 1 || m.Nonce > 1<<40 || m.Pos < 0 || m.Pos > 1<<40 || m.End < 0 || m.End > 1<<40 || m.Stage < 0 || m.Stage > 16 || len(m.Data) > 64 {
		return false
	}
	if m.Kind == api.MNo && (m.Num < 1 || m.Num > 13) || m.Num < 0 || m.Num > 512 {
		return false
	}
	if strings.Contains(letters(m.Kind), "c") && !legalChain(m.Chain) {
		return false
	}
	return legalEntries(m) && legalMarks(m)
}

func legalChain(l []api.Tag) bool {
	ids := map[int]bool{}
	for i, t := range l {
		held := t.Owner == 0 && (t.Heir == 1 || t.Heir == 2) || (t.Owner == 1 || t.Owner == 2) && t.Heir == 0
		if !held || t.ID < 1 || t.ID > 1<<30 || ids[t.ID] || t.At < 0 || t.At > 1<<40 || i == 0 && t.At > 0 || i > 0 && t.At < l[i-1].At {
			return false
		}
		ids[t.ID] = true
	}
	return len(l) >= 1 && len(l) <= 32
}

func legalEntries(m api.Msg) bool {
	next := m.Pos
	for _, e := range m.Entries {
		next++
		if e.Tag < 1 || e.Tag > 1<<30 || e.Seq != next || e.Seq > 1<<40 || len(e.Data) < 1 || len(e.Data) > 90 {
			return false
		}
	}
	return len(m.Entries) <= 4
}

func legalMarks(m api.Msg) bool {
	for _, x := range m.Marks {
		if x.ID < 1 || x.ID > 1<<30 || x.Size < 0 || x.Size > 512 || !named.MatchString(x.Name) {
			return false
		}
	}
	return len(m.Marks) <= 17 && (m.Kind != api.MInfo || len(m.Marks) >= 1)
}

// sealed is b and its sum, as Go's own library has it.
func sealed(b []byte) []byte {
	return binary.LittleEndian.AppendUint32(bytes.Clone(b), crc32.Checksum(b, crc32.MakeTable(crc32.Castagnoli)))
}

// framed is e's frame, as Go's own library lays it.
func framed(e api.Entry) []byte {
	b := binary.LittleEndian.AppendUint32([]byte("HGJE"), uint32(e.Tag))
	b = binary.LittleEndian.AppendUint64(b, uint64(e.Seq))
	b = binary.LittleEndian.AppendUint16(b, uint16(len(e.Data)))
	return sealed(append(b, e.Data...))
}

// piece is one of the pieces that a message's bytes are made of; sort: 'k' for Kind, 'n' for the numbers behind it, 'w' for how many bytes a chain has, 't' for a chain's numbers, 'c' for how many entries or marks, 'f' for a frame, 'm' for a mark's ID or Size, 'g' for Gone, 'x' for how many bytes a name has, 's' for these, 'd' for Data.
type piece struct {
	sort byte
	b    []byte
}

func number(sort byte, n int) piece {
	return piece{sort, binary.AppendUvarint(nil, uint64(n))}
}

// pieces is m in bytes, unsealed, the numbers as Go's own library lays them; how many bytes a chain has is left open.
func pieces(m api.Msg) []piece {
	l := []piece{{'k', []byte{byte(m.Kind)}}}
	for _, n := range []int{m.Nonce, m.Pos, m.End, m.Stage, m.Num} {
		l = append(l, number('n', n))
	}
	if m.Kind == api.MBatch || m.Kind == api.MInfo {
		l = append(l, piece{sort: 'w'}, number('t', len(m.Chain)))
		for _, t := range m.Chain {
			l = append(l, number('t', t.ID), number('t', t.Owner), number('t', t.Heir), number('t', t.At))
		}
	}
	switch m.Kind {
	case api.MBatch:
		l = append(l, number('c', len(m.Entries)))
		for _, e := range m.Entries {
			l = append(l, piece{'f', framed(e)})
		}
	case api.MInfo:
		l = append(l, number('c', len(m.Marks)))
		for _, x := range m.Marks {
			l = append(l, number('m', x.ID), number('m', x.Size), piece{'g', []byte{0}}, number('x', len(x.Name)), piece{'s', []byte(x.Name)})
			if x.Gone {
				l[len(l)-3].b = []byte{1}
			}
		}
	case api.MPart:
		l = append(l, piece{'d', m.Data})
	}
	return l
}

// joined is the pieces' bytes; where it was left open how many bytes a chain has, they are counted.
func joined(l []piece) []byte {
	width := 0
	for _, p := range l {
		if p.sort == 't' {
			width += len(p.b)
		}
	}
	var b []byte
	for _, p := range l {
		if p.sort == 'w' && p.b == nil {
			b = binary.AppendUvarint(b, uint64(width))
		}
		b = append(b, p.b...)
	}
	return b
}

// inside is m in bytes ahead of its sum, byHand with it.
func inside(m api.Msg) []byte {
	return joined(pieces(m))
}

func byHand(m api.Msg) []byte {
	return sealed(inside(m))
}

// with is inside of m, but that the piece at that place is b.
func with(m api.Msg, place int, b []byte) []byte {
	l := pieces(m)
	l[place].b = b
	return joined(l)
}

// value is the number that stands in a piece; of one that was left open the one that is counted.
func value(m api.Msg, place int) uint64 {
	l := pieces(m)
	if l[place].b == nil {
		ahead := len(joined(l[:place]))
		n, _ := binary.Uvarint(joined(l)[ahead:])
		return n
	}
	n, _ := binary.Uvarint(l[place].b)
	return n
}

// all is all fields of m, written out.
func all(m api.Msg) string {
	return fmt.Sprintf("%d %d %d %d %d %d %v %v %q %v", m.Kind, m.Nonce, m.Pos, m.End, m.Stage, m.Num, m.Chain, m.Entries, fmt.Sprint(m.Marks), m.Data)
}

// same is whether a and b are alike in all.
func same(a, b api.Msg) bool {
	return all(a) == all(b)
}

// tell is m in few words, however much it is.
func tell(m api.Msg) string {
	return fmt.Sprintf("a message (%d tags, %d entries, %d marks, %d bytes) %.300s", len(m.Chain), len(m.Entries), len(m.Marks), len(m.Data), all(m))
}

// isRight fails the test, unless Right tells want, and Put goes by it.
func isRight(t *testing.T, m api.Msg, want bool) {
	t.Helper()
	if got := msg.Right(m); got != want {
		t.Errorf("P9.1: Right of %s: %v", tell(m), got)
	}
	b, why := msg.Put(m)
	if want && (why != api.OK || !bytes.Equal(b, byHand(m))) || !want && why != api.ErrArg {
		t.Errorf("P9.2: Put of %s: %v, %v", tell(m), b, why)
	}
	if !want && len(b) > 0 {
		t.Errorf("R3: Put of %s answers %v beside a refusal", tell(m), b)
	}
}

// refuses fails the test, unless Get refuses b by that, and answers nothing beside it.
func refuses(t *testing.T, what string, b []byte, no api.Errno) {
	t.Helper()
	m, why := msg.Get(b)
	if why != no {
		t.Errorf("P9.2: Get of %s, %d bytes %v: %v, not %v", what, len(b), b[:min(len(b), 80)], why, no)
	}
	if !same(m, api.Msg{}) {
		t.Errorf("R3: Get of %s, %d bytes %v, answers %s beside a refusal", what, len(b), b[:min(len(b), 80)], tell(m))
	}
}

// isNone fails the test, unless Get tells that b, sealed, is no message.
func isNone(t *testing.T, what string, b []byte) {
	t.Helper()
	refuses(t, what, sealed(b), api.ErrForm)
}

// gets fails the test, unless Get answers want.
func gets(t *testing.T, b []byte, want api.Msg) {
	t.Helper()
	if m, why := msg.Get(b); why != api.OK || !same(m, want) {
		t.Errorf("P9.2: Get of %v: %s, %v, not %s", b, tell(m), why, tell(want))
	}
}

// reader takes a message's bytes from the beginning on; odd: something was there that a Put doesn't lay.
type reader struct {
	rest []byte
	odd  bool
}

func (r *reader) bytes(n int) []byte {
	if n > len(r.rest) {
		r.odd = true
		n = 0
	}
	b := r.rest[:n]
	r.rest = r.rest[n:]
	return b
}

func (r *reader) number() int {
	n, width := binary.Uvarint(r.rest)
	if width < 1 || width > 1 && r.rest[width-1] == 0 || n > math.MaxInt {
		r.odd = true
		return 0
	}
	r.rest = r.rest[width:]
	return int(n)
}

func (r *reader) chain() []api.Tag {
	in := &reader{rest: r.bytes(r.number())}
	var l []api.Tag
	for range min(in.number(), 100) {
		l = append(l, api.Tag{ID: in.number(), Owner: in.number(), Heir: in.number(), At: in.number()})
	}
	r.odd = r.odd || in.odd || len(in.rest) > 0
	return l
}

func (r *reader) entry() api.Entry {
	whole := r.rest
	if mark := r.bytes(18); len(mark) < 18 || string(mark[:4]) != "HGJE" {
		r.odd = true
		return api.Entry{}
	}
	e := api.Entry{Tag: int(binary.LittleEndian.Uint32(whole[4:])), Seq: int(binary.LittleEndian.Uint64(whole[8:]))}
	e.Data = bytes.Clone(r.bytes(int(binary.LittleEndian.Uint16(whole[16:]))))
	sum := r.bytes(4)
	if r.odd || !bytes.Equal(sealed(whole[:18+len(e.Data)])[18+len(e.Data):], sum) {
		r.odd = true
	}
	return e
}

func (r *reader) mark() api.Mark {
	m := api.Mark{ID: r.number(), Size: r.number()}
	last := r.number()
	m.Gone = last == 1
	r.odd = r.odd || last > 1
	m.Name = string(r.bytes(r.number()))
	return m
}

// read is the message whose bytes, as Go's own library lays and sums them, are just b, or why there is none.
func read(b []byte) (api.Msg, api.Errno) {
	if len(b) < 4 || !bytes.Equal(sealed(b[:len(b)-4]), b) {
		return api.Msg{}, api.ErrSum
	}
	r := &reader{rest: b[:len(b)-4]}
	var m api.Msg
	for _, c := range r.bytes(1) {
		m.Kind = int(c)
	}
	m.Nonce, m.Pos, m.End, m.Stage, m.Num = r.number(), r.number(), r.number(), r.number(), r.number()
	switch m.Kind {
	case api.MBatch:
		m.Chain = r.chain()
		for range min(r.number(), 100) {
			m.Entries = append(m.Entries, r.entry())
		}
	case api.MInfo:
		m.Chain = r.chain()
		for range min(r.number(), 100) {
			m.Marks = append(m.Marks, r.mark())
		}
	case api.MPart:
		m.Data = r.bytes(len(r.rest))
	}
	if r.odd || len(r.rest) > 0 || !legal(m) {
		return api.Msg{}, api.ErrForm
	}
	return m, api.OK
}

// sound fails the test, unless Get reads b as read does.
func sound(t *testing.T, b []byte) {
	t.Helper()
	m, why := msg.Get(b)
	if want, no := read(b); why != no || !same(m, want) {
		t.Errorf("P9.2: Get of %d bytes %v: %s, %v, not %s, %v", len(b), b[:min(len(b), 80)], tell(m), why, tell(want), no)
	}
}

// P9.1

func TestRight(t *testing.T) {
	for _, m := range right() {
		isRight(t, m, true)
	}
	for _, m := range wrong() {
		isRight(t, m, false)
	}
}

// TestRightOfEachKind: each Kind and numbers around, of a message that has a Nonce alone, and of each other Kind's.
func TestRightOfEachKind(t *testing.T) {
	for _, kind := range append(edges(), 3, 4, 5, 6, 7, 8, 9, 10, 11, 256+3, 256+7, 1<<16+3, 1<<32+3, 1<<32+8, -3, -8, math.MinInt+3) {
		m := api.Msg{Kind: kind, Nonce: 1}
		want := kind == api.MFetch || kind == api.MStart || kind == api.MGet || kind == api.MPart || kind == api.MDone || kind == api.MOver
		isRight(t, m, want)
		for _, m := range bases() {
			m.Kind = kind
			isRight(t, m, legal(m))
		}
	}
}

// TestRightOfEachNumber: the limits written out: each number of each Kind that names it.
func TestRightOfEachNumber(t *testing.T) {
	type limit struct{ first, last int }
	for _, m := range bases() {
		for i := range 5 {
			most := []limit{{1, 1099511627776}, {0, 1099511627776}, {0, 1099511627776}, {0, 16}, {0, 512}}[i]
			if m.Kind == api.MNo && i == 4 {
				most = limit{1, 13}
			}
			if i > 0 && !strings.Contains(letters(m.Kind), "?pesn"[i:i+1]) {
				most = limit{0, 0}
			}
			for _, n := range edges() {
				x := m
				*[]*int{&x.Nonce, &x.Pos, &x.End, &x.Stage, &x.Num}[i] = n
				want := n >= most.first && n <= most.last
				if x.Kind == api.MBatch && i == 1 && want {
					// The entries go on from another Pos, which is told of below.
					x.Entries = nil
				}
				isRight(t, x, want)
			}
		}
	}
}

// TestRightOfWhatAKindDoesNotName: each such field, set to what another Kind may have there, and to what none may have.
func TestRightOfWhatAKindDoesNotName(t *testing.T) {
	for _, m := range append(bases(), right()...) {
		for i, field := range "pesnclmd" {
			if strings.ContainsRune(letters(m.Kind), field) {
				continue
			}
			for _, n := range []int{1, -1, 7, 128, 1 << 8, 1 << 32, math.MinInt, math.MaxInt} {
				x := m
				switch field {
				case 'c':
					x.Chain = lone()
				case 'l':
					x.Entries = seqs(x.Pos + 1)
				case 'm':
					x.Marks = marks(1)
				case 'd':
					x.Data = []byte{0}
				default:
					*[]*int{&x.Pos, &x.End, &x.Stage, &x.Num}[i] = n
				}
				isRight(t, x, false)
			}
			x := m
			switch field {
			case 'c':
				x.Chain = make([]api.Tag, 1)
			case 'l':
				x.Entries = make([]api.Entry, 1)
			case 'm':
				x.Marks = make([]api.Mark, 1)
			case 'd':
				x.Data = make([]byte, 1<<20)
			default:
				continue
			}
			isRight(t, x, false)
		}
	}
}

// TestRightOfChains: chains of each length, and each number of a tag at its edges, at each place.
func TestRightOfChains(t *testing.T) {
	for n := range 70 {
		for _, m := range chained(tags(n)) {
			isRight(t, m, n >= 1 && n <= 32)
		}
	}
	for _, n := range edges() {
		for at := range 3 {
			for i := range 4 {
				l := tags(3)
				*[]*int{&l[at].ID, &l[at].Owner, &l[at].Heir, &l[at].At}[i] = n
				for _, m := range chained(l) {
					isRight(t, m, legal(m))
				}
			}
		}
	}
}

// TestRightOfHowManyEntries: so many entries, from each Pos on, and by how many the first one lies off.
func TestRightOfHowManyEntries(t *testing.T) {
	for count := range 12 {
		for _, pos := range []int{0, 1, 2, 127, 128, 1 << 30, 1<<40 - 12, 1<<40 - 5, 1<<40 - 4, 1<<40 - 3, 1<<40 - 1, 1 << 40} {
			for off := -3; off <= 3; off++ {
				m := api.Msg{Kind: api.MBatch, Nonce: 1, Pos: pos, End: 3, Chain: lone(), Entries: run(pos+1+off, count)}
				isRight(t, m, count == 0 || off == 0 && count <= 4 && pos+count <= 1<<40)
			}
		}
	}
	isRight(t, batch(run(10, 1<<16)...), false)
	isRight(t, batch(run(10, 1<<8+1)...), false)
}

// TestRightOfEachRowOfSeqs: all rows of up to five Seqs of few.
func TestRightOfEachRowOfSeqs(t *testing.T) {
	for code := range 6 * 6 * 6 * 6 * 6 {
		for pos := range 3 {
			m := api.Msg{Kind: api.MBatch, Nonce: 1, Pos: pos, Chain: lone()}
			for n := code; n > 0; n /= 6 {
				m.Entries = append(m.Entries, entry(n%6+pos))
			}
			if got := msg.Right(m); got != legal(m) {
				t.Fatalf("P9.1: Right of %s: %v", tell(m), got)
			}
		}
	}
}

// TestRightOfAnEntry: each Tag and Seq, and each number of bytes, of an entry alone and at each place among others.
func TestRightOfAnEntry(t *testing.T) {
	for at := range 4 {
		for _, n := range edges() {
			l := run(10, 4)
			l[at].Tag = n
			isRight(t, batch(l...), n >= 1 && n <= 1<<30)
			isRight(t, batch(l[:at+1]...), n >= 1 && n <= 1<<30)
			l[at] = entry(n)
			isRight(t, batch(l...), n == 10+at)
			isRight(t, batch(l[:at+1]...), n == 10+at)
		}
		for n := range 200 {
			l := run(10, 4)
			l[at].Data = make([]byte, n)
			isRight(t, batch(l...), n >= 1 && n <= 90)
		}
		for _, n := range []int{1<<8 + 1, 1 << 16, 1<<16 + 1, 1<<20 + 1} {
			l := run(10, 4)
			l[at].Data = make([]byte, n)
			isRight(t, batch(l...), false)
		}
	}
}

// TestRightOfHowManyMarks: so many, whatever they are called and in whatever order they stand.
func TestRightOfHowManyMarks(t *testing.T) {
	for n := range 60 {
		want := n >= 1 && n <= 17
		isRight(t, info(marks(n)...), want)
		back := marks(n)
		slices.Reverse(back)
		isRight(t, info(back...), want)
		isRight(t, info(slices.Repeat([]api.Mark{mark(5, "a", 5)}, n)...), want)
		isRight(t, info(slices.Repeat([]api.Mark{gone(5, "~a", 5)}, n)...), want)
	}
	isRight(t, info(marks(1<<8+1)...), false)
	isRight(t, info(marks(1<<16)...), false)
}

// TestRightOfAMark: each ID and Size of a mark, alone and at each place among others.
func TestRightOfAMark(t *testing.T) {
	for _, id := range edges() {
		for _, size := range edges() {
			want := id >= 1 && id <= 1<<30 && size >= 0 && size <= 512
			for i, m := range []api.Mark{mark(id, "m", size), gone(id, "m", size), mark(id, "~m", size), gone(id, "~m", size)} {
				other := mark(1, "n", 1)
				isRight(t, info([][]api.Mark{{m}, {m, other}, {other, m}, {other, m, other}}[i]...), want)
			}
		}
	}
}

func TestRightOfNames(t *testing.T) {
	twelve, more := strings.Repeat("a", 12), strings.Repeat("a", 13)
	for name, want := range map[string]bool{
		"": false, "a": true, "-": true, "0": true, twelve: true, more: false, "~": false, "~a": true, "~-": true, "~" + twelve: true, "~" + more: false, "~~": false, "~~a": false, "~a~": false, "a~": false, "a~b": false,
		"a\n": false, "\na": false, "~a\n": false, " ": false, "~ ": false, "A": false, "~A": false, "a_b": false, "\x00": false, "\xff": false, "\u00e4": false, "a\u0301": false, strings.Repeat("~", 13): false, twelve + "~": false, strings.Repeat("a", 1<<20): false, strings.Repeat("~", 1<<20): false,
	} {
		isRight(t, info(mark(1, name, 3)), want)
		isRight(t, info(gone(1, name, 3)), want)
		isRight(t, info(mark(1, "b", 3), mark(2, name, 3)), want)
		isRight(t, info(mark(1, name, 3), gone(2, "b", 3)), want)
	}
	for n := range 16 {
		for at := range n {
			for c := range 256 {
				name := []byte("a0-z9b-c1d2e3f4g")[:n]
				name[at] = byte(c)
				for _, m := range []api.Msg{info(mark(1, string(name), 0)), info(gone(1, "~"+string(name), 0))} {
					if got := msg.Right(m); got != legal(m) {
						t.Fatalf("P9.1: Right of %s: %v", tell(m), got)
					}
				}
			}
		}
	}
}

func TestRightOfData(t *testing.T) {
	for n := range 300 {
		isRight(t, part(make([]byte, n)), n <= 64)
		isRight(t, part(bytes.Repeat([]byte{255}, n)), n <= 64)
	}
	for _, n := range []int{1<<16 + 1, 1 << 20} {
		isRight(t, part(make([]byte, n)), false)
	}
}

// P9.2: Same

// turned is m with one thing changed, each thing once, whether its Kind names it or not.
func turned(m api.Msg) []api.Msg {
	var l []api.Msg
	for i := range 6 {
		for _, bit := range []int{0, 7, 8, 32, 40, 62} {
			x := m
			*[]*int{&x.Kind, &x.Nonce, &x.Pos, &x.End, &x.Stage, &x.Num}[i] ^= 1 << bit
			l = append(l, x)
		}
	}
	other := func(turn func(m *api.Msg)) {
		x := deep(m)
		turn(&x)
		l = append(l, x)
	}
	for i := range m.Chain {
		for k := range 4 {
			other(func(m *api.Msg) {
				*[]*int{&m.Chain[i].ID, &m.Chain[i].Owner, &m.Chain[i].Heir, &m.Chain[i].At}[k] ^= 1 << (10 * k)
			})
		}
		other(func(m *api.Msg) { m.Chain = slices.Delete(m.Chain, i, i+1) })
	}
	for i := range m.Entries {
		other(func(m *api.Msg) { m.Entries[i].Tag++ })
		other(func(m *api.Msg) { m.Entries[i].Seq++ })
		other(func(m *api.Msg) { m.Entries[i].Data = append(m.Entries[i].Data, 0) })
		if len(m.Entries[i].Data) > 0 {
			other(func(m *api.Msg) { m.Entries[i].Data[len(m.Entries[i].Data)-1] ^= 128 })
			other(func(m *api.Msg) { m.Entries[i].Data = nil })
		}
		other(func(m *api.Msg) { m.Entries = slices.Delete(m.Entries, i, i+1) })
	}
	for i := range m.Marks {
		other(func(m *api.Msg) { m.Marks[i].ID ^= 1 << 40 })
		other(func(m *api.Msg) { m.Marks[i].Size ^= 1 })
		other(func(m *api.Msg) { m.Marks[i].Gone = !m.Marks[i].Gone })
		other(func(m *api.Msg) { m.Marks[i].Name += "\x00" })
		other(func(m *api.Msg) { m.Marks[i].Name = "~" + m.Marks[i].Name })
		other(func(m *api.Msg) { m.Marks = slices.Delete(m.Marks, i, i+1) })
	}
	for i := range m.Data {
		other(func(m *api.Msg) { m.Data[i] ^= 1 })
		other(func(m *api.Msg) { m.Data = m.Data[:i] })
	}
	other(func(m *api.Msg) { m.Chain = append(m.Chain, api.Tag{}) })
	other(func(m *api.Msg) { m.Entries = append(m.Entries, api.Entry{}) })
	other(func(m *api.Msg) { m.Marks = append(m.Marks, api.Mark{}) })
	other(func(m *api.Msg) { m.Data = append(m.Data, 0) })
	return l
}

// deep is m in memory of its own.
func deep(m api.Msg) api.Msg {
	m.Chain, m.Entries, m.Marks, m.Data = slices.Clone(m.Chain), slices.Clone(m.Entries), slices.Clone(m.Marks), slices.Clone(m.Data)
	for i := range m.Entries {
		m.Entries[i].Data = slices.Clone(m.Entries[i].Data)
	}
	return m
}

func TestSame(t *testing.T) {
	for _, m := range append(right(), wrong()...) {
		if !msg.Same(m, m) || !msg.Same(m, deep(m)) || !msg.Same(deep(m), m) {
			t.Errorf("P9.2: Same of %s and one just like it", tell(m))
		}
		if len(m.Entries) > 20 || len(m.Marks) > 20 || len(m.Data) > 100 {
			continue
		}
		for _, x := range turned(m) {
			if msg.Same(m, x) || msg.Same(x, m) {
				t.Errorf("P9.2: Same of %s and %s", tell(m), tell(x))
			}
		}
	}
	for i, a := range bases() {
		for k, b := range bases() {
			if msg.Same(a, b) != (i == k) {
				t.Errorf("P9.2: Same of %s and %s", tell(a), tell(b))
			}
		}
	}
}

// TestSameOfOtherOrders: lists of the same things in another order differ.
func TestSameOfOtherOrders(t *testing.T) {
	a := api.Msg{Chain: tags(2), Entries: run(1, 2), Marks: marks(2), Data: []byte{1, 2}}
	for i := range 4 {
		b := deep(a)
		switch i {
		case 0:
			slices.Reverse(b.Chain)
		case 1:
			slices.Reverse(b.Entries)
		case 2:
			slices.Reverse(b.Marks)
		case 3:
			slices.Reverse(b.Data)
		}
		if msg.Same(a, b) || msg.Same(b, a) {
			t.Errorf("P9.2: Same of %s and %s", tell(a), tell(b))
		}
	}
}

// P9.2: Put

// TestPutByHand: the bytes ahead of the sum written out, so that no number is reckoned here.
func TestPutByHand(t *testing.T) {
	for _, c := range []struct {
		m    api.Msg
		want string
	}{
		{api.Msg{Kind: api.MFetch, Nonce: 300, Pos: 127, End: 128}, "\x01\xac\x02\x7f\x80\x01\x00\x00"},
		{api.Msg{Kind: api.MFetch, Nonce: 1 << 40, Pos: 1 << 40, End: 1 << 40}, "\x01\x80\x80\x80\x80\x80\x20\x80\x80\x80\x80\x80\x20\x80\x80\x80\x80\x80\x20\x00\x00"},
		{api.Msg{Kind: api.MBatch, Nonce: 7, Pos: 4, End: 2, Chain: []api.Tag{{ID: 300, Heir: 2}}}, "\x02\x07\x04\x02\x00\x00\x06\x01\xac\x02\x00\x02\x00\x00"},
		{api.Msg{Kind: api.MBatch, Nonce: 7, Pos: 4, End: 9, Chain: []api.Tag{{ID: 1, Owner: 1}, {ID: 4, Owner: 2, At: 3}}, Entries: []api.Entry{{Tag: 4, Seq: 5, Data: []byte("ab")}, {Tag: 4, Seq: 6, Data: []byte("c")}}},
			"\x02\x07\x04\x09\x00\x00\x09\x02\x01\x01\x00\x00\x04\x02\x00\x03\x02" + string(sealed([]byte("HGJE\x04\x00\x00\x00\x05\x00\x00\x00\x00\x00\x00\x00\x02\x00ab"))) + string(sealed([]byte("HGJE\x04\x00\x00\x00\x06\x00\x00\x00\x00\x00\x00\x00\x01\x00c")))},
		{api.Msg{Kind: api.MStart, Nonce: 1}, "\x03\x01\x00\x00\x00\x00"},
		{api.Msg{Kind: api.MInfo, Nonce: 9, Pos: 200, Chain: lone(), Marks: []api.Mark{gone(5, "ab", 1), mark(300, "~z-9", 512)}}, "\x04\x09\xc8\x01\x00\x00\x00\x05\x01\x01\x01\x00\x00\x02\x05\x01\x01\x02ab\xac\x02\x80\x04\x00\x04~z-9"},
		{api.Msg{Kind: api.MGet, Nonce: 2, Stage: 16, Num: 512}, "\x05\x02\x00\x00\x10\x80\x04"},
		{api.Msg{Kind: api.MPart, Nonce: 2, Stage: 1, Num: 3}, "\x06\x02\x00\x00\x01\x03"},
		{api.Msg{Kind: api.MPart, Nonce: 2, Stage: 1, Num: 3, Data: []byte("\x00\xffa")}, "\x06\x02\x00\x00\x01\x03\x00\xffa"},
		{api.Msg{Kind: api.MDone, Nonce: 128}, "\x07\x80\x01\x00\x00\x00\x00"},
		{api.Msg{Kind: api.MOver, Nonce: 127}, "\x08\x7f\x00\x00\x00\x00"},
		{api.Msg{Kind: api.MNo, Nonce: 3, Num: 13}, "\x09\x03\x00\x00\x00\x0d"},
	} {
		want := sealed([]byte(c.want))
		if got, why := msg.Put(c.m); why != api.OK || !bytes.Equal(got, want) {
			t.Errorf("P9.2: Put of %s: %q, %v, not %q", tell(c.m), got, why, want)
		}
		gets(t, want, c.m)
	}
}

func TestPutOfStart(t *testing.T) {
	b, why := msg.Put(api.Msg{Kind: api.MStart, Nonce: 1})
	if why != api.OK || len(b) != 10 || string(b[:6]) != "\x03\x01\x00\x00\x00\x00" {
		t.Errorf("P9.2: Put of MStart, Nonce 1: %v, %v", b, why)
	}
}

// P9.2: Get

func TestGet(t *testing.T) {
	for _, m := range right() {
		gets(t, byHand(m), m)
	}
}

func TestGetOfNothing(t *testing.T) {
	refuses(t, "nil", nil, api.ErrSum)
	refuses(t, "no byte", []byte{}, api.ErrSum)
	refuses(t, "no byte, with a Put as its room", byHand(base(api.MStart))[:0], api.ErrSum)
	for n := 1; n < 4; n++ {
		refuses(t, "less than a sum", make([]byte, n), api.ErrSum)
	}
	// Four noughts are the sum of no byte.
	refuses(t, "no byte, sealed", make([]byte, 4), api.ErrForm)
	isNone(t, "no byte, sealed", nil)
}

func TestGetOfEachLengthCutOff(t *testing.T) {
	for _, m := range right() {
		b, in := byHand(m), inside(m)
		for n := range b {
			sound(t, b[:n])
			sound(t, b[n+1:])
			sound(t, append(bytes.Clone(b[:n]), b[n+1:]...))
		}
		for n := range in {
			if m.Kind != api.MPart {
				isNone(t, "a message cut off, sealed", in[:n])
			}
			sound(t, sealed(in[:n]))
			sound(t, sealed(in[n+1:]))
			sound(t, sealed(append(bytes.Clone(in[:n]), in[n+1:]...)))
		}
	}
}

func TestGetOfAByteMore(t *testing.T) {
	for _, m := range right() {
		b, in := byHand(m), inside(m)
		for c := range 256 {
			sound(t, append(bytes.Clone(b), byte(c)))
			sound(t, append([]byte{byte(c)}, b...))
			sound(t, sealed(append([]byte{byte(c)}, in...)))
			sound(t, sealed(append(bytes.Clone(in), byte(c))))
			if m.Kind != api.MPart {
				isNone(t, "a byte behind the last field", append(bytes.Clone(in), byte(c)))
			}
		}
		isNone(t, "many bytes behind it", append(bytes.Clone(in), make([]byte, 5000)...))
		if m.Kind != api.MPart {
			isNone(t, "two messages", append(bytes.Clone(in), in...))
			isNone(t, "a sealed message, sealed", b)
			isNone(t, "a frame more than told", append(bytes.Clone(in), framed(entry(m.Pos+1+len(m.Entries)))...))
			isNone(t, "a mark more than told", append(bytes.Clone(in), "\x63\x00\x00\x01q"...))
		}
	}
}

// TestGetOfTurnedBytes: bytes of a Put as others: its sum tells; and sealed anew: refused, or the message that lies there now.
func TestGetOfTurnedBytes(t *testing.T) {
	for _, m := range right() {
		b, in := byHand(m), inside(m)
		for i := range b {
			for c := 1; c < 256; c += 1 + len(b)/10 {
				odd := bytes.Clone(b)
				odd[i] ^= byte(c)
				refuses(t, "a turned byte", odd, api.ErrSum)
			}
		}
		for i := range in {
			for c := range 256 {
				if len(in) > 40 && c > 8 && c%16 != i%16 {
					continue
				}
				odd := bytes.Clone(in)
				odd[i] = byte(c)
				sound(t, sealed(odd))
			}
		}
	}
}

// TestGetOfEachKind: each message's bytes under each Kind's byte.
func TestGetOfEachKind(t *testing.T) {
	for _, m := range right() {
		for c := range 256 {
			b := with(m, 0, []byte{byte(c)})
			sound(t, sealed(b))
			if c == 0 || c > 9 {
				isNone(t, "no Kind", b)
			}
		}
	}
}

// TestGetOfAnyGone: Gone is 0 or 1, and nothing else, at each place.
func TestGetOfAnyGone(t *testing.T) {
	for _, m := range right() {
		first := len(pieces(m)) - 5*len(m.Marks)
		for i := range m.Marks {
			at := first + 5*i + 2
			for n := range 300 {
				b := with(m, at, binary.AppendUvarint(nil, uint64(n)))
				if n > 1 {
					isNone(t, "a Gone of more than 1", b)
					continue
				}
				other := deep(m)
				other.Marks[i].Gone = n == 1
				gets(t, sealed(b), other)
			}
			for _, n := range []uint64{1 << 32, 1<<32 + 1, 1<<62 + 1, 1<<63 + 1, math.MaxUint64} {
				isNone(t, "a Gone that is far off", with(m, at, binary.AppendUvarint(nil, n)))
			}
		}
	}
}

// spelt is other rows that n might be read from, if longer Vars were read: with noughts behind them, one to the ninth byte, and beyond it.
func spelt(n uint64) [][]byte {
	var l [][]byte
	for more := 1; more <= 10; more++ {
		long := binary.AppendUvarint(nil, n)
		for range more {
			long[len(long)-1] |= 128
			long = append(long, 0)
		}
		l = append(l, long)
	}
	return l
}

func TestGetOfLongerVars(t *testing.T) {
	for _, m := range right() {
		for i, p := range pieces(m) {
			if strings.IndexByte("kfsd", p.sort) >= 0 {
				continue
			}
			for _, b := range spelt(value(m, i)) {
				if m.Kind != api.MPart {
					isNone(t, "a message with a longer Var", with(m, i, b))
				}
				sound(t, sealed(with(m, i, b)))
			}
			for n := range 12 {
				isNone(t, "a message that ends in a Var", append(joined(pieces(m)[:i]), bytes.Repeat([]byte{129}, n)...))
			}
		}
	}
}

// TestGetOfNumbersBeyond: each number of a message beyond its limit, by one and by far, or one whose lowest bits are those of the number that belongs there.
func TestGetOfNumbersBeyond(t *testing.T) {
	for _, m := range right() {
		for i, p := range pieces(m) {
			if strings.IndexByte("kfsd", p.sort) >= 0 {
				continue
			}
			n := value(m, i)
			for _, high := range []uint64{1<<40 + 1, 1 << 41, 1 << 62, math.MaxInt, math.MaxInt + 1, math.MaxUint64 - 1, math.MaxUint64, 1<<41 | n, 1<<62 | n, 1<<63 | n} {
				isNone(t, "a number beyond its limit", with(m, i, binary.AppendUvarint(nil, high)))
			}
			for _, high := range []uint64{0, 1, 2, 3, 4, 5, 13, 14, 16, 17, 18, 512, 513, 1 << 30, 1<<30 + 1, 1 << 32, 1<<32 | n, 1<<8 | n, 1<<16 | n, n + 1, n - 1} {
				sound(t, sealed(with(m, i, binary.AppendUvarint(nil, high))))
			}
		}
	}
}

// TestGetOfCounts: how many bytes, tags, entries or marks there are told as more or fewer.
func TestGetOfCounts(t *testing.T) {
	for _, m := range right() {
		first := true
		for i, p := range pieces(m) {
			// Of a chain's numbers the first one is how many tags it has.
			if p.sort != 'w' && p.sort != 'c' && p.sort != 'x' && !(p.sort == 't' && first) {
				continue
			}
			first = first && p.sort != 't'
			n := value(m, i)
			for told := range uint64(600) {
				if told != n {
					isNone(t, "another count", with(m, i, binary.AppendUvarint(nil, told)))
				}
			}
			for _, told := range []uint64{1<<8 + n, 1<<16 + n, 1<<32 + n, math.MaxInt, 1<<63 + n, math.MaxUint64} {
				isNone(t, "another count", with(m, i, binary.AppendUvarint(nil, told)))
			}
		}
	}
}

// TestGetOfMoreThanMayBe: so many tags, entries, marks and bytes, well laid and sealed.
func TestGetOfMoreThanMayBe(t *testing.T) {
	for n := range 200 {
		for _, m := range append(chained(tags(n)), batch(run(10, n)...), info(marks(n)...), part(make([]byte, n))) {
			if legal(m) {
				gets(t, byHand(m), m)
			} else {
				isNone(t, "more than may be", inside(m))
			}
		}
	}
}

// TestGetOfOddChains: bytes that are counted as the chain's, and are none's.
func TestGetOfOddChains(t *testing.T) {
	for _, m := range []api.Msg{base(api.MBatch), base(api.MInfo), batch()} {
		for i, p := range pieces(m) {
			if p.sort != 'w' {
				continue
			}
			ahead, chain, behind := joined(pieces(m)[:i]), joined(pieces(m)[i+1:i+6]), joined(pieces(m)[i+6:])
			lay := func(l []byte) []byte {
				return slices.Concat(ahead, binary.AppendUvarint(nil, uint64(len(l))), l, behind)
			}
			gets(t, sealed(lay(chain)), m)
			for n := range chain {
				isNone(t, "a chain cut off", lay(chain[:n]))
			}
			for c := range 256 {
				isNone(t, "a chain and a byte", lay(append(bytes.Clone(chain), byte(c))))
				sound(t, sealed(lay([]byte{1, byte(c), 1, 0, 0})))
			}
			isNone(t, "two chains", lay(append(bytes.Clone(chain), chain...)))
			isNone(t, "all that is behind it as the chain's", slices.Concat(ahead, binary.AppendUvarint(nil, uint64(len(chain)+len(behind))), chain, behind))
		}
	}
}

// TestGetOfOddFrames: frames that are torn, turned or not there, in what is well sealed.
func TestGetOfOddFrames(t *testing.T) {
	for count := 1; count <= 4; count++ {
		m := batch(run(10, count)...)
		first := len(pieces(m)) - count
		for i := range count {
			f := framed(m.Entries[i])
			for n := range f {
				isNone(t, "a frame cut off", with(m, first+i, f[:n]))
				for bit := range 8 {
					odd := bytes.Clone(f)
					odd[n] ^= 1 << bit
					isNone(t, "a turned frame", with(m, first+i, odd))
				}
			}
			for _, e := range []api.Entry{{Tag: 0, Seq: 10 + i, Data: []byte{8}}, {Tag: 1<<30 + 1, Seq: 10 + i, Data: []byte{8}}, {Tag: 1, Seq: 10 + i}, {Tag: 1, Seq: 10 + i, Data: make([]byte, 91)}, entry(9 + i), entry(11 + i), entry(0), entry(-1), entry(math.MinInt + 10 + i)} {
				isNone(t, "a frame that may not be there", with(m, first+i, framed(e)))
			}
			isNone(t, "a frame too few", with(m, first+i, nil))
			isNone(t, "a frame too many", with(m, first+i, append(bytes.Clone(f), framed(entry(11+i))...)))
			isNone(t, "a byte ahead of a frame", with(m, first+i, append([]byte{0}, f...)))
			isNone(t, "a byte behind a frame", with(m, first+i, append(bytes.Clone(f), 0)))
			other := deep(m)
			other.Entries[i] = api.Entry{Tag: 1 << 30, Seq: 10 + i, Data: bytes.Repeat([]byte{1}, 90)}
			gets(t, sealed(with(m, first+i, framed(other.Entries[i]))), other)
		}
	}
}

// TestGetOfNames: each byte at each place of a name, and other names, their bytes counted.
func TestGetOfNames(t *testing.T) {
	for _, m := range []api.Msg{base(api.MInfo), info(marks(1)...), info(mark(1, "zzzzzzzzzzzz", 512))} {
		for i, p := range pieces(m) {
			if p.sort != 's' {
				continue
			}
			for at := range p.b {
				for c := range 256 {
					odd := bytes.Clone(p.b)
					odd[at] = byte(c)
					sound(t, sealed(with(m, i, odd)))
				}
			}
			for n := range 300 {
				for _, text := range []string{strings.Repeat("b", n), "~" + strings.Repeat("b", n)} {
					l := pieces(m)
					l[i-1].b, l[i].b = binary.AppendUvarint(nil, uint64(len(text))), []byte(text)
					sound(t, sealed(joined(l)))
				}
			}
		}
	}
}

// TestGetOfWhatIsNotRight: well laid and sealed, but no message; what its Kind doesn't name isn't laid, so that it may be one without that.
func TestGetOfWhatIsNotRight(t *testing.T) {
	for _, m := range wrong() {
		sound(t, byHand(m))
		if m.Kind >= 0 && m.Kind < 256 {
			isNone(t, "what isn't Right", inside(m))
		}
	}
	for _, m := range bases() {
		for i := range 5 {
			for _, n := range edges() {
				x := m
				*[]*int{&x.Nonce, &x.Pos, &x.End, &x.Stage, &x.Num}[i] = n
				if legal(x) {
					gets(t, byHand(x), x)
				} else {
					isNone(t, "a number that may not be there", inside(x))
				}
			}
		}
	}
}

// TestGetOfEachShortRow: of many short rows, sealed, just those are read that are a Put's.
func TestGetOfEachShortRow(t *testing.T) {
	for code := range 1 << 16 {
		b := []byte{byte(code), byte(code >> 8)}
		sound(t, sealed(b[:1]))
		sound(t, sealed(b))
		sound(t, sealed([]byte{b[0], b[1], 0, 0, 0, 0}))
		sound(t, sealed([]byte{api.MNo, 1, 0, 0, b[1], b[0]}))
	}
	few := []byte{0, 1, 2, 3, 128}
	aheads := []string{"", "\x01", "\x05\x01\x00", "\x06\x01\x00\x00", "\x02\x01\x00\x00\x00\x00", "\x04\x01\x00\x00\x00\x00", "\x02\x01\x00\x00\x00\x00\x05\x01", "\x04\x01\x00\x00\x00\x00\x05\x01\x01\x01\x00\x00", "\x04\x01\x00\x00\x00\x00\x05\x01\x01\x01\x00\x00\x01"}
	for code := range 5 * 5 * 5 * 5 * 5 * 5 {
		for _, ahead := range aheads {
			b := []byte(ahead)
			for n := code; n > 0; n /= 5 {
				b = append(b, few[n%5])
			}
			sound(t, sealed(b))
			sound(t, sealed(append(b, 'a')))
		}
	}
}

// P9.3

// drawn is a message that may be.
func drawn(r *rand.Rand) api.Msg {
	m := api.Msg{Kind: 1 + r.Intn(9), Nonce: 1 + upTo(r, api.MaxSeq-1)}
	has := func(field string) bool { return strings.Contains(letters(m.Kind), field) }
	if has("p") {
		m.Pos = upTo(r, api.MaxSeq-4)
	}
	if has("e") {
		m.End = upTo(r, api.MaxSeq)
	}
	if has("s") {
		m.Stage = r.Intn(17)
	}
	if has("n") {
		m.Num = r.Intn(513)
	}
	if m.Kind == api.MNo {
		m.Num = 1 + r.Intn(13)
	}
	if has("c") {
		m.Chain = drawnChain(r)
	}
	if has("l") {
		for i := range r.Intn(5) {
			e := api.Entry{Tag: 1 + upTo(r, api.MaxID-1), Seq: m.Pos + 1 + i, Data: make([]byte, 1+r.Intn(90))}
			r.Read(e.Data)
			m.Entries = append(m.Entries, e)
		}
	}
	if has("m") {
		for range 1 + r.Intn(17) {
			name := strings.Repeat("~", r.Intn(2)) + fmt.Sprint("n-", r.Intn(1<<30))
			m.Marks = append(m.Marks, api.Mark{ID: 1 + upTo(r, api.MaxID-1), Name: name, Size: r.Intn(513), Gone: r.Intn(2) == 0})
		}
	}
	if has("d") {
		m.Data = make([]byte, r.Intn(65))
		r.Read(m.Data)
	}
	return m
}

// upTo is a number from 0 to most, as often a small one as a great one.
func upTo(r *rand.Rand, most int) int {
	return r.Intn(min(most, 1<<r.Intn(41)) + 1)
}

func drawnChain(r *rand.Rand) []api.Tag {
	l := tags(1 + r.Intn(32))
	id, at := 0, 0
	for i := range l {
		id += 1 + r.Intn(1<<r.Intn(20))
		l[i].ID, l[i].At = id, at
		at += r.Intn(1 << r.Intn(30))
	}
	return l
}

func TestGetOfPutIsIt(t *testing.T) {
	r := rand.New(rand.NewSource(93))
	l := right()
	for range 10000 {
		l = append(l, drawn(r))
	}
	for _, m := range l {
		isRight(t, m, true)
		b, why := msg.Put(m)
		got, no := msg.Get(b)
		if why != api.OK || no != api.OK || !same(got, m) || !msg.Same(got, m) {
			t.Fatalf("P9.3: Get of the Put of %s: %s, %v, %v", tell(m), tell(got), why, no)
		}
		i, bit := r.Intn(len(b)), r.Intn(255)+1
		b[i] ^= byte(bit)
		if got, no := msg.Get(b); no != api.ErrSum || !same(got, api.Msg{}) {
			t.Fatalf("P9.3: Get of the Put of %s, byte %d turned by %d: %s, %v", tell(m), i, bit, tell(got), no)
		}
	}
}

// TestTurnedByteIsTold: each byte of a Put as each other one.
func TestTurnedByteIsTold(t *testing.T) {
	for _, m := range bases() {
		b, _ := msg.Put(m)
		for i := range b {
			for c := 1; c < 256; c++ {
				b[i] ^= byte(c)
				if got, no := msg.Get(b); no != api.ErrSum || !same(got, api.Msg{}) {
					t.Fatalf("P9.3: Get of the Put of %s, byte %d turned by %d: %s, %v", tell(m), i, c, tell(got), no)
				}
				b[i] ^= byte(c)
			}
		}
	}
}

// R1

// wild is a message of any kind.
func wild(r *rand.Rand) api.Msg {
	any := func() int { return int(r.Uint64() >> r.Intn(64)) }
	m := api.Msg{Kind: r.Intn(11), Nonce: any(), Pos: any(), End: any(), Stage: any(), Num: any()}
	if r.Intn(2) == 0 {
		m = base(1 + r.Intn(9))
	}
	if r.Intn(3) == 0 {
		m.Chain = tags(r.Intn(40))
	}
	if r.Intn(3) == 0 {
		m.Entries = run(m.Pos+1, r.Intn(7))
		for i := range m.Entries {
			if r.Intn(9) == 0 {
				m.Entries[i] = api.Entry{Tag: any(), Seq: any(), Data: make([]byte, r.Intn(100))}
			}
		}
	}
	if r.Intn(3) == 0 {
		names := []string{"a", "b", "~a", "n-1", "~", "", "\x00", "~~", strings.Repeat("a", 13)}
		for range r.Intn(4) {
			m.Marks = append(m.Marks, api.Mark{ID: any(), Name: names[r.Intn(len(names))], Size: any() % 600, Gone: r.Intn(3) == 0})
		}
	}
	if r.Intn(3) == 0 {
		m.Data = make([]byte, r.Intn(70))
	}
	return m
}

// TestAny: messages and bytes of any kind: calls end, and none panics.
func TestAny(t *testing.T) {
	r := rand.New(rand.NewSource(94))
	for range 20000 {
		m := wild(r)
		isRight(t, m, legal(m))
		if !msg.Same(m, m) {
			t.Fatalf("P9.2: Same of %s and itself", tell(m))
		}
	}
	for range 100000 {
		b := make([]byte, r.Intn(30))
		r.Read(b)
		sound(t, b)
		for i := range b {
			b[i] %= 7
		}
		sound(t, sealed(b))
	}
	for range 20000 {
		b := inside(drawn(r))
		for range 1 + r.Intn(3) {
			b[r.Intn(len(b))] = byte(r.Intn(256) >> r.Intn(8))
		}
		sound(t, sealed(b))
	}
	for _, c := range []byte{0, 1, 2, 4, 6, 17, 127, 128, 255} {
		refuses(t, "many bytes", append(bytes.Repeat([]byte{c}, 1<<20), 1), api.ErrSum)
		isNone(t, "many bytes", bytes.Repeat([]byte{c}, 1<<20))
	}
	isNone(t, "a chain of many bytes", append([]byte{api.MInfo, 1, 0, 0, 0, 0, 128, 128, 64}, make([]byte, 1<<20)...))
	m := base(api.MBatch)
	m.Chain = make([]api.Tag, 1<<20)
	isRight(t, m, false)
	isRight(t, batch(make([]api.Entry, 1<<20)...), false)
	isRight(t, info(make([]api.Mark, 1<<20)...), false)
	isRight(t, batch(api.Entry{Tag: 1, Seq: 10, Data: make([]byte, 1<<20)}), false)
}

// R2

// roomy is m, its lists in memory of their own, with spare room behind them in which other things lie.
func roomy(m api.Msg) api.Msg {
	room := func(b []byte) []byte { return append(slices.Clone(b), "room"...)[:len(b)] }
	m.Chain = append(slices.Clone(m.Chain), api.Tag{ID: 61, Owner: 1}, api.Tag{ID: 62, Owner: 2})[:len(m.Chain)]
	m.Marks = append(slices.Clone(m.Marks), gone(61, "r", 1), mark(62, "~s", 2))[:len(m.Marks)]
	m.Entries = append(slices.Clone(m.Entries), entry(m.Pos+1+len(m.Entries)), entry(62))[:len(m.Entries)]
	for i := range m.Entries {
		m.Entries[i].Data = room(m.Entries[i].Data)
	}
	m.Data = room(m.Data)
	return m
}

// whole is m, and what lies in its lists' spare room.
func whole(m api.Msg) string {
	s := fmt.Sprint(all(m), m.Chain[:cap(m.Chain)], m.Marks[:cap(m.Marks)], m.Data[:cap(m.Data)])
	for _, e := range m.Entries[:cap(m.Entries)] {
		s += fmt.Sprint(e, e.Data[:cap(e.Data)])
	}
	return s
}

// spoil writes over all of m's lists, their spare room too.
func spoil(m api.Msg) {
	fill := func(b []byte) {
		b = b[:cap(b)]
		for i := range b {
			b[i] = 77
		}
	}
	for i := range m.Chain[:cap(m.Chain)] {
		m.Chain[:cap(m.Chain)][i] = api.Tag{ID: -5, Owner: -5, Heir: -5, At: -5}
	}
	for i := range m.Marks[:cap(m.Marks)] {
		m.Marks[:cap(m.Marks)][i] = gone(-5, "spoilt", -5)
	}
	for i, e := range m.Entries[:cap(m.Entries)] {
		fill(e.Data)
		m.Entries[:cap(m.Entries)][i] = api.Entry{Tag: -5, Seq: -5}
	}
	fill(m.Data)
}

// small is those of l that are not long.
func small(l []api.Msg) []api.Msg {
	return slices.DeleteFunc(l, func(m api.Msg) bool {
		return len(m.Chain) > 100 || len(m.Entries) > 100 || len(m.Marks) > 100 || len(m.Data) > 100
	})
}

func TestNothingHandedInIsChanged(t *testing.T) {
	for _, m := range small(append(right(), wrong()...)) {
		a := roomy(m)
		was := whole(a)
		msg.Right(a)
		msg.Put(a)
		msg.Same(a, a)
		msg.Same(a, base(api.MBatch))
		if whole(a) != was {
			t.Fatalf("R2: %s was changed: %s", was, whole(a))
		}
		b := append(byHand(m), "spare"...)
		told := string(b)
		msg.Get(b[:len(b)-5])
		if string(b) != told {
			t.Fatalf("R2: bytes were changed by Get of %s", tell(m))
		}
	}
}

func TestAnswersAreNewMemory(t *testing.T) {
	for _, m := range right() {
		a := roomy(m)
		was := whole(a)
		one, _ := msg.Put(a)
		two, _ := msg.Put(a)
		one = one[:cap(one)]
		for i := range one {
			one[i] ^= 255
		}
		if whole(a) != was || !bytes.Equal(two, byHand(m)) {
			t.Fatalf("R2: Put of %s shares memory", tell(m))
		}
		spoil(a)
		if !bytes.Equal(two, byHand(m)) {
			t.Fatalf("R2: Put of %s shares memory with what was handed in", tell(m))
		}
		b := byHand(m)
		first, _ := msg.Get(b)
		second, _ := msg.Get(b)
		spoil(first)
		if !bytes.Equal(b, byHand(m)) {
			t.Fatalf("R2: Get of %s shares memory with what was handed in", tell(m))
		}
		clear(b)
		if !same(second, m) {
			t.Fatalf("R2: Gets of %s share memory", tell(m))
		}
	}
}

// TestNoTwoListsShareMemory: what is written into one list of an answer, and behind its end, is not seen in another.
func TestNoTwoListsShareMemory(t *testing.T) {
	m := batch(run(10, 4)...)
	m.Chain = tags(5)
	for i := range m.Entries {
		m.Entries[i].Data = bytes.Repeat([]byte{byte(i + 1)}, 20)
	}
	for i := range m.Entries {
		got, why := msg.Get(byHand(m))
		if why != api.OK {
			t.Fatalf("P9.2: Get of %s: %v", tell(m), why)
		}
		d := got.Entries[i].Data[:cap(got.Entries[i].Data)]
		for k := range d {
			d[k] = 77
		}
		got.Entries[i].Data = m.Entries[i].Data
		if !same(got, m) {
			t.Fatalf("R2: the Data of entry %d is shared: %s", i, tell(got))
		}
	}
}

// R4, R5

// TestSpareRoomIsNotRead: what lies behind a list's length is none of it.
func TestSpareRoomIsNotRead(t *testing.T) {
	for _, m := range right() {
		a := roomy(m)
		isRight(t, a, true)
		if !msg.Same(a, m) || !msg.Same(m, a) {
			t.Errorf("R5: Same of %s", tell(m))
		}
		b := append(byHand(m), 9)
		gets(t, b[:len(b)-1], m)
	}
	isRight(t, roomy(batch()), true)
	isRight(t, roomy(info()), false)
	for _, m := range chained(tags(2)[:0]) {
		isRight(t, m, false)
	}
}

// emptied is m, of its lists that are empty some nil and some not, as bits of code say.
func emptied(m api.Msg, code int) api.Msg {
	if len(m.Chain) == 0 {
		m.Chain = [][]api.Tag{nil, {}}[code&1]
	}
	if len(m.Entries) == 0 {
		m.Entries = [][]api.Entry{nil, {}}[code>>1&1]
	}
	if len(m.Marks) == 0 {
		m.Marks = [][]api.Mark{nil, marks(3)[:0]}[code>>2&1]
	}
	if len(m.Data) == 0 {
		m.Data = [][]byte{nil, {}}[code>>3&1]
	}
	return m
}

// TestNilAndEmpty: a list that is empty, be it one that the Kind names, is as one that is nil.
func TestNilAndEmpty(t *testing.T) {
	for _, m := range append(bases(), batch(), part(nil)) {
		want := byHand(m)
		for code := range 16 {
			a, b := emptied(m, code), emptied(m, ^code)
			if got, why := msg.Put(a); !msg.Right(a) || why != api.OK || !bytes.Equal(got, want) {
				t.Errorf("R4: Put of %s: %v, %v", tell(a), got, why)
			}
			if !msg.Same(a, b) || !msg.Same(b, a) || !msg.Same(a, m) || !msg.Same(m, b) {
				t.Errorf("R4: Same of %s with nil and with empty lists", tell(m))
			}
		}
	}
	for code := range 16 {
		isRight(t, emptied(api.Msg{Kind: api.MBatch, Nonce: 1}, code), false)
		isRight(t, emptied(api.Msg{Kind: api.MInfo, Nonce: 1, Chain: lone()}, code), false)
		isRight(t, emptied(api.Msg{}, code), false)
	}
	a, b := api.Msg{Entries: []api.Entry{{}}}, api.Msg{Entries: []api.Entry{{Data: []byte{}}}}
	if !msg.Same(a, b) || !msg.Same(b, a) {
		t.Error("R4: Same of two entries, of nil Data and of empty")
	}
}
