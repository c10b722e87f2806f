package chain_test

import (
	"bytes"
	"encoding/binary"
	"fmt"
	"math"
	"math/rand"
	"slices"
	"testing"

	"hectograph/api"
	"hectograph/chain"
)

func own(id, site, at int) api.Tag {
	return api.Tag{ID: id, Owner: site, At: at}
}

func orphan(id, heir, at int) api.Tag {
	return api.Tag{ID: id, Heir: heir, At: at}
}

// tags is a list of those.
func tags(l ...api.Tag) []api.Tag {
	return l
}

// far is numbers that are nowhere near a limit, those among them which an addition or a subtraction may carry over the edge.
func far() []int {
	return []int{math.MinInt, math.MinInt + 1, math.MinInt + 2, math.MinInt + api.MaxID, math.MinInt + api.MaxSeq, -api.MaxSeq, math.MinInt32, -1 << 32, 1 << 62, 1<<62 + 1, math.MaxInt - api.MaxSeq, math.MaxInt - api.MaxID, math.MaxInt - 1, math.MaxInt}
}

// full is a chain of n tags, its Ats each step further, its IDs in no order.
func full(n, step int) []api.Tag {
	var l []api.Tag
	for i := range n {
		l = append(l, api.Tag{ID: 1000 - 7*i, Owner: i % 3, At: i * step})
		if i%3 == 0 {
			l[i].Heir = 1 + i%2
		}
	}
	return l
}

// right is chains, the edges among them.
func right() [][]api.Tag {
	return [][]api.Tag{
		tags(own(1, 1, 0)), tags(own(1, 2, 0)), tags(orphan(1, 1, 0)), tags(orphan(1, 2, 0)),
		tags(own(127, 1, 0)), tags(own(128, 2, 0)), tags(own(16383, 1, 0)), tags(orphan(16384, 2, 0)), tags(own(api.MaxID-1, 1, 0)), tags(own(api.MaxID, 1, 0)), tags(orphan(api.MaxID, 2, 0)),
		tags(own(1, 1, 0), own(2, 2, 0)), tags(own(2, 1, 0), own(1, 2, 0)), tags(own(1, 1, 0), own(3, 1, 1)), tags(own(5, 1, 0), orphan(7, 2, 9), own(8, 2, 9)),
		tags(own(1, 1, 0), own(2, 1, 127), own(3, 1, 128), own(4, 1, 16384)), tags(own(1, 1, 0), own(2, 2, api.MaxSeq-1)), tags(own(1, 1, 0), own(2, 2, api.MaxSeq)), tags(own(api.MaxID, 1, 0), own(api.MaxID-1, 2, api.MaxSeq), orphan(1, 1, api.MaxSeq)),
		tags(orphan(9, 1, 0), orphan(10, 1, 0), orphan(11, 2, 0)),
		full(api.MaxTags, 0), full(api.MaxTags, 1), full(api.MaxTags-1, 50), full(api.MaxTags, 1<<34), full(17, 1000),
	}
}

// wrong is lists that are no chain: each field at its edge and far off, at the first place and at the last one.
func wrong() [][]api.Tag {
	l := [][]api.Tag{nil, {}, {{}}, {{}, {}}, {own(1, 1, 0), {}}, full(api.MaxTags+1, 0), full(api.MaxTags+1, 1), full(2*api.MaxTags, 1), full(100, 1)}
	odd := []api.Tag{
		own(0, 1, 0), own(-1, 1, 0), own(api.MaxID+1, 1, 0), own(1, -1, 0), own(1, 3, 0), own(1, 1, -1), own(1, 1, api.MaxSeq+1),
		orphan(1, 0, 0), orphan(1, -1, 0), orphan(1, 3, 0), orphan(0, 1, 0), orphan(api.MaxID+1, 2, 0), orphan(1, 1, -1), orphan(1, 2, api.MaxSeq+1),
		{ID: 1, Owner: 1, Heir: 1}, {ID: 1, Owner: 1, Heir: 2}, {ID: 1, Owner: 2, Heir: 1}, {ID: 1, Owner: 2, Heir: -1}, {ID: 1, Owner: 1, Heir: 3},
	}
	for _, n := range far() {
		odd = append(odd, own(n, 1, 0), own(1, n, 0), own(1, 1, n), orphan(1, n, 0), api.Tag{ID: 1, Owner: 1, Heir: n}, orphan(n, 1, 0), orphan(1, 1, n))
	}
	for _, t := range odd {
		l = append(l, tags(t), tags(own(7, 1, 0), t), tags(t, own(7, 1, 0)), tags(t, own(7, 1, t.At)), tags(own(7, 1, 0), t, own(8, 1, t.At)))
	}
	return append(l,
		tags(own(1, 1, 1)), tags(own(1, 1, 1), own(2, 1, 1)), tags(own(1, 1, 1), own(2, 1, 0)), tags(own(1, 1, api.MaxSeq)),
		tags(own(1, 1, 0), own(1, 1, 0)), tags(own(1, 1, 0), own(1, 2, 5)), tags(own(1, 1, 0), orphan(1, 2, 5)), tags(own(1, 1, 0), own(2, 2, 5), own(1, 1, 9)),
		tags(own(1, 1, 0), own(2, 2, 5), own(3, 1, 4)), tags(own(1, 1, 0), own(2, 2, api.MaxSeq), own(3, 1, api.MaxSeq-1)), tags(own(1, 1, 0), own(2, 2, 5), own(3, 1, 0)),
	)
}

// byHand is l in bytes, its numbers as Go's own library lays them.
func byHand(l []api.Tag) []byte {
	b := binary.AppendUvarint(nil, uint64(len(l)))
	for _, n := range numbers(l) {
		b = binary.AppendUvarint(b, uint64(n))
	}
	return b
}

// numbers is all fields of all tags of l, one behind the other.
func numbers(l []api.Tag) []int {
	var all []int
	for _, t := range l {
		all = append(all, t.ID, t.Owner, t.Heir, t.At)
	}
	return all
}

// same is what Same should tell of a and b.
func same(a, b []api.Tag) bool {
	return fmt.Sprint(numbers(a)) == fmt.Sprint(numbers(b))
}

// tell is l in few words, however long it is.
func tell(l []api.Tag) string {
	return fmt.Sprintf("%d tags %.200s", len(l), fmt.Sprint(l[:min(len(l), 40)]))
}

// fields is t with just one field as another value has it, each field in turn.
func fields(t api.Tag) []api.Tag {
	var l []api.Tag
	for _, n := range []int{-2, -1, 1, 2, 256, 1 << 32, math.MinInt} {
		id, owner, heir, at := t, t, t, t
		id.ID += n
		owner.Owner += n
		heir.Heir += n
		at.At += n
		l = append(l, id, owner, heir, at)
	}
	return l
}

// isRight fails the test, unless Right tells want, and Put goes by it.
func isRight(t *testing.T, l []api.Tag, want bool) {
	t.Helper()
	if got := chain.Right(l); got != want {
		t.Errorf("P6.1: Right of %s: %v", tell(l), got)
	}
	b, why := chain.Put(l)
	if want && why != api.OK || !want && why != api.ErrArg {
		t.Errorf("P6.1: Put of %s: %v", tell(l), why)
	}
	if !want && len(b) > 0 {
		t.Errorf("R3: Put of %s answers %v beside a refusal", tell(l), b)
	}
}

// refuses fails the test, unless Get refuses b, and answers nothing beside that.
func refuses(t *testing.T, what string, b []byte) {
	t.Helper()
	l, why := chain.Get(b)
	if why != api.ErrForm {
		t.Errorf("P6.1: Get of %s, %d bytes %v: %v, not ErrForm", what, len(b), b[:min(len(b), 60)], why)
	}
	if len(l) > 0 {
		t.Errorf("R3: Get of %s, %d bytes %v, answers %s beside a refusal", what, len(b), b[:min(len(b), 60)], tell(l))
	}
}

// sound fails the test, unless Get refuses b, or answers a chain whose bytes are just b.
func sound(t *testing.T, b []byte) {
	t.Helper()
	l, why := chain.Get(b)
	if why == api.OK && (!chain.Right(l) || !bytes.Equal(byHand(l), b)) || why != api.OK && (why != api.ErrForm || len(l) > 0) {
		t.Errorf("P6.1: Get of %d bytes %v: %s, %v", len(b), b[:min(len(b), 60)], tell(l), why)
	}
}

// gets fails the test, unless Get answers want.
func gets(t *testing.T, b []byte, want []api.Tag) {
	t.Helper()
	if l, why := chain.Get(b); why != api.OK || !same(l, want) {
		t.Errorf("P6.1: Get of %v: %s, %v, not %s", b, tell(l), why, tell(want))
	}
}

// P6.1: Right

func TestRight(t *testing.T) {
	for _, l := range right() {
		isRight(t, l, true)
	}
	for _, l := range wrong() {
		isRight(t, l, false)
	}
}

func TestRightOfHowMany(t *testing.T) {
	for n := range 140 {
		isRight(t, full(n, 0), n >= 1 && n <= 32)
		isRight(t, full(n, 3), n >= 1 && n <= 32)
	}
	// Numbers of tags whose lowest bits are those of a number that may be.
	for _, n := range []int{1 << 8, 1<<8 + 1, 1 << 16, 1<<16 + 1} {
		l := make([]api.Tag, n)
		for i := range l {
			l[i] = own(i+1, 1, 0)
		}
		isRight(t, l, false)
	}
}

// legal is what Right should tell of a tag at At that stands alone (without its At).
func legal(id, owner, heir int) bool {
	switch owner {
	case 0:
		return id >= 1 && id <= 1<<30 && (heir == 1 || heir == 2)
	case 1, 2:
		return id >= 1 && id <= 1<<30 && heir == 0
	}
	return false
}

func TestRightOfEachTag(t *testing.T) {
	sites := append(far(), -3, -2, -1, 0, 1, 2, 3, 4, 5, 256, 257, 258, 1<<32, 1<<32+1, 1<<32+2)
	for _, id := range append(far(), -1, 0, 1, 2, 255, 256, 1<<30-1, 1<<30, 1<<30+1, 1<<31, 1<<32, 1<<32+1) {
		for _, owner := range sites {
			for _, heir := range sites {
				l := tags(api.Tag{ID: id, Owner: owner, Heir: heir})
				if got := chain.Right(l); got != legal(id, owner, heir) {
					t.Fatalf("P6.1: Right of %s: %v", tell(l), got)
				}
				l = tags(own(77, 1, 0), l[0])
				if got := chain.Right(l); got != legal(id, owner, heir) {
					t.Fatalf("P6.1: Right of %s: %v", tell(l), got)
				}
			}
		}
	}
}

func TestRightOfEachAt(t *testing.T) {
	ats := append(far(), -2, -1, 0, 1, 2, 3, 1<<32, 1<<40-1, 1<<40, 1<<40+1, 1<<41)
	for _, a := range ats {
		isRight(t, tags(own(1, 1, a)), a == 0)
		for _, b := range ats {
			isRight(t, tags(own(1, 1, a), own(2, 1, b)), a == 0 && b >= 0 && b <= 1<<40)
			isRight(t, tags(own(3, 1, 0), own(1, 1, a), orphan(2, 1, b)), a >= 0 && a <= b && b <= 1<<40)
		}
	}
}

// TestRightOfEachAtBelow: at each place of a full chain an At that is below the one ahead, or above the one behind.
func TestRightOfEachAtBelow(t *testing.T) {
	for i := range api.MaxTags {
		l := full(api.MaxTags, 4)
		if i > 0 {
			l[i].At = l[i-1].At
			isRight(t, l, true)
			l[i].At--
			isRight(t, l, false)
		}
		if l = full(api.MaxTags, 4); i > 0 && i < api.MaxTags-1 {
			l[i].At = l[i+1].At
			isRight(t, l, true)
			l[i].At++
			isRight(t, l, false)
		}
		l = full(api.MaxTags, 4)
		l[i].At = api.MaxSeq + 1
		isRight(t, l, false)
	}
}

// TestRightOfTwins: at each two places of a full chain two IDs alike.
func TestRightOfTwins(t *testing.T) {
	for i := range api.MaxTags {
		for j := range i {
			l := full(api.MaxTags, 2)
			l[i].ID = l[j].ID
			isRight(t, l, false)
			l = full(i+1, 0)
			l[j].ID = l[i].ID
			isRight(t, l, false)
		}
		l := full(api.MaxTags, 2)
		l[i].ID = api.MaxID
		isRight(t, l, true)
	}
	// Owner, Heir and At may be alike, and ID may be what another field is.
	isRight(t, tags(own(2, 2, 0), own(1, 2, 2), orphan(3, 1, 2), orphan(4, 1, 2)), true)
}

// TestRightOfEachPair: all lists of two tags of few numbers.
func TestRightOfEachPair(t *testing.T) {
	var l []api.Tag
	for id := -1; id <= 2; id++ {
		for owner := -1; owner <= 3; owner++ {
			for heir := -1; heir <= 3; heir++ {
				for at := -1; at <= 2; at++ {
					l = append(l, api.Tag{ID: id, Owner: owner, Heir: heir, At: at})
				}
			}
		}
	}
	for _, a := range l {
		for _, b := range l {
			want := legal(a.ID, a.Owner, a.Heir) && legal(b.ID, b.Owner, b.Heir) && a.ID != b.ID && a.At == 0 && b.At >= 0
			if got := chain.Right(tags(a, b)); got != want {
				t.Fatalf("P6.1: Right of %v, %v: %v", a, b, got)
			}
		}
	}
}

// P6.1: Put

// TestPutByHand: the bytes written out, so that no number is reckoned here.
func TestPutByHand(t *testing.T) {
	for _, c := range []struct {
		l    []api.Tag
		want string
	}{
		{tags(own(1, 1, 0)), "\x01\x01\x01\x00\x00"},
		{tags(own(2, 2, 0)), "\x01\x02\x02\x00\x00"},
		{tags(orphan(127, 1, 0)), "\x01\x7f\x00\x01\x00"},
		{tags(orphan(128, 2, 0)), "\x01\x80\x01\x00\x02\x00"},
		{tags(own(300, 1, 0), orphan(2, 2, 7)), "\x02\xac\x02\x01\x00\x00\x02\x00\x02\x07"},
		{tags(own(1, 1, 0), orphan(3, 2, 127), own(4, 2, 128)), "\x03\x01\x01\x00\x00\x03\x00\x02\x7f\x04\x02\x00\x80\x01"},
		{tags(own(1<<30, 2, 0), own(1, 1, 1<<40)), "\x02\x80\x80\x80\x80\x04\x02\x00\x00\x01\x01\x00\x80\x80\x80\x80\x80\x20"},
	} {
		if got, why := chain.Put(c.l); why != api.OK || string(got) != c.want {
			t.Errorf("P6.1: Put of %s: %q, %v, not %q", tell(c.l), got, why, c.want)
		}
		gets(t, []byte(c.want), c.l)
	}
	if b, _ := chain.Put(full(32, 1)); len(b) == 0 || b[0] != 32 {
		t.Errorf("P6.1: Put of a chain of MaxTags: %v", b)
	}
}

func TestPut(t *testing.T) {
	for _, l := range right() {
		if got, why := chain.Put(l); why != api.OK || !bytes.Equal(got, byHand(l)) {
			t.Errorf("P6.1: Put of %s: %v, %v, not %v", tell(l), got, why, byHand(l))
		}
	}
}

// P6.1: Get

func TestGet(t *testing.T) {
	for _, l := range right() {
		gets(t, byHand(l), l)
	}
}

func TestGetOfNothing(t *testing.T) {
	refuses(t, "nil", nil)
	refuses(t, "no byte", []byte{})
	refuses(t, "no byte, with a Put as its room", byHand(tags(own(1, 1, 0)))[:0])
}

func TestGetOfEachLengthCutOff(t *testing.T) {
	for _, l := range right() {
		b := byHand(l)
		for n := range b {
			refuses(t, "a Put cut off", b[:n])
			sound(t, b[n+1:])
			sound(t, append(bytes.Clone(b[:n]), b[n+1:]...))
		}
	}
}

func TestGetOfAByteMore(t *testing.T) {
	for _, l := range right() {
		b := byHand(l)
		for c := range 256 {
			refuses(t, "a Put, a byte behind it", append(bytes.Clone(b), byte(c)))
		}
		refuses(t, "a Put, a byte ahead of it", append([]byte{0}, b...))
		refuses(t, "two Puts", append(bytes.Clone(b), b...))
		refuses(t, "a Put, many bytes behind it", append(bytes.Clone(b), make([]byte, 5000)...))
	}
}

// TestGetOfEachShortRow: of all rows of up to two bytes, and of many of three to six, just those are a chain that are the Put of one.
func TestGetOfEachShortRow(t *testing.T) {
	puts := map[string][]api.Tag{}
	for id := 1; id < 1<<14; id++ {
		for _, l := range [][]api.Tag{tags(own(id, 1, 0)), tags(own(id, 2, 0)), tags(orphan(id, 1, 0)), tags(orphan(id, 2, 0))} {
			puts[string(byHand(l))] = l
		}
	}
	look := func(b []byte) {
		l, why := chain.Get(b)
		want, ok := puts[string(b)]
		if ok && (why != api.OK || !same(l, want)) || !ok && (why != api.ErrForm || len(l) > 0) {
			t.Fatalf("P6.1: Get of %v: %s, %v", b, tell(l), why)
		}
	}
	for a := range 256 {
		look([]byte{byte(a)})
		for b := range 256 {
			look([]byte{byte(a), byte(b)})
		}
	}
	few := []byte{0, 1, 2, 3, 127, 128, 129, 255}
	for _, a := range []byte{0, 1, 2, 33, 128, 129} {
		for b := range 256 {
			for _, c := range few {
				for _, d := range few {
					look([]byte{a, byte(b), c, d})
					for _, e := range few {
						look([]byte{a, byte(b), c, d, e})
						look([]byte{a, byte(b), c, d, e, 0})
						look([]byte{a, byte(b), c, d, e, 1})
					}
				}
			}
		}
	}
}

// spelt is other rows that n might be read from, if longer Vars were read: with noughts behind them, one to the ninth byte, and beyond it.
func spelt(n int) [][]byte {
	var l [][]byte
	for more := 1; more <= 10; more++ {
		b := binary.AppendUvarint(nil, uint64(n))
		for range more {
			b[len(b)-1] |= 128
			b = append(b, 0)
		}
		l = append(l, b)
	}
	return l
}

// with is the bytes of l, but that the number at that place (0: how many tags) is laid as b.
func with(l []api.Tag, place int, b []byte) []byte {
	var row []byte
	for i, n := range append([]int{len(l)}, numbers(l)...) {
		if i == place {
			row = append(row, b...)
		} else {
			row = binary.AppendUvarint(row, uint64(n))
		}
	}
	return row
}

func TestGetOfLongerVars(t *testing.T) {
	for _, l := range right() {
		for i, n := range append([]int{len(l)}, numbers(l)...) {
			for _, b := range spelt(n) {
				refuses(t, "a Put with a longer Var", with(l, i, b))
			}
		}
	}
	// A number that goes on to b's end is none.
	for n := range 30 {
		for _, c := range []byte{128, 129, 255} {
			refuses(t, "a Var that doesn't end", bytes.Repeat([]byte{c}, n+1))
			refuses(t, "an ID that doesn't end", append([]byte{1}, bytes.Repeat([]byte{c}, n+1)...))
			refuses(t, "an Owner that doesn't end", append([]byte{1, 1}, bytes.Repeat([]byte{c}, n+1)...))
			refuses(t, "a Heir that doesn't end", append([]byte{1, 1, 1}, bytes.Repeat([]byte{c}, n+1)...))
			refuses(t, "an At that doesn't end", append([]byte{1, 1, 1, 0}, bytes.Repeat([]byte{c}, n+1)...))
		}
	}
}

func TestGetOfNumbersTooGreat(t *testing.T) {
	great := []uint64{1<<30 + 1, 1 << 32, 1<<32 + 1, 1<<40 + 1, 1 << 62, math.MaxInt - 1, math.MaxInt, math.MaxInt + 1, math.MaxInt + 2, math.MaxUint64, math.MaxUint64 - 1}
	for _, l := range right() {
		for i, n := range append([]int{len(l)}, numbers(l)...) {
			for _, high := range great {
				if i > 0 && i%4 == 0 && high <= api.MaxSeq {
					continue // as an At it may be
				}
				refuses(t, "a number too great", with(l, i, binary.AppendUvarint(nil, high)))
				// Its lowest bits are those of the number that belongs there.
				refuses(t, "a number too great", with(l, i, binary.AppendUvarint(nil, 1<<63|uint64(n))))
				refuses(t, "a number too great", with(l, i, binary.AppendUvarint(nil, 1<<41|uint64(n))))
			}
		}
	}
}

func TestGetOfHowMany(t *testing.T) {
	for _, n := range []int{0, 2, 3, 31, 32, 33, 127, 128, 255, 256, 257, 1 << 32, 1<<32 + 1, math.MaxInt} {
		refuses(t, "another count", with(tags(own(1, 1, 0)), 0, binary.AppendUvarint(nil, uint64(n))))
	}
	refuses(t, "a count of 0", []byte{0})
	refuses(t, "a count of 0, and a tag", []byte{0, 1, 1, 0, 0})
	for n := api.MaxTags + 1; n < 140; n++ {
		refuses(t, "more than MaxTags", byHand(full(n, 0)))
		refuses(t, "more than MaxTags, told as so many", with(full(n, 0), 0, []byte{api.MaxTags}))
		refuses(t, "more than MaxTags that aren't there", binary.AppendUvarint(nil, uint64(n)))
	}
	for n := 1; n <= api.MaxTags; n++ {
		l := full(n, 5)
		gets(t, byHand(l), l)
		for told := range api.MaxTags + 9 {
			if told != n {
				refuses(t, "another count", with(l, 0, []byte{byte(told)}))
			}
		}
	}
}

// TestGetOfWhatIsNotRight: well laid, but of no chain.
func TestGetOfWhatIsNotRight(t *testing.T) {
	for _, l := range wrong() {
		refuses(t, "what isn't Right", byHand(l))
	}
}

// TestGetOfTurnedBytes: each byte of a Put as each other one: refused, or the chain that lies there now.
func TestGetOfTurnedBytes(t *testing.T) {
	for _, l := range right() {
		b := byHand(l)
		for i := range b {
			for _, turn := range []byte{1, 2, 4, 8, 16, 32, 64, 128, 255} {
				odd := bytes.Clone(b)
				odd[i] ^= turn
				sound(t, odd)
			}
		}
	}
}

// P6.1: Next

// next is what Next should tell, one number tried behind the other.
func next(l []api.Tag, site int) int {
	n := 1
	for i := 0; i < len(l); i++ {
		if l[i].ID > 1<<30 {
			return 0
		}
		if l[i].ID >= n {
			n = l[i].ID + 1
		}
	}
	for (n&1 == 1) != (site == 1) {
		n++
	}
	return n
}

func isNext(t *testing.T, l []api.Tag, site, want int) {
	t.Helper()
	if got := chain.Next(l, site); got != want {
		t.Errorf("P6.1: Next of %s, site %d: %d, not %d", tell(l), site, got, want)
	}
}

func TestNext(t *testing.T) {
	others := append(far(), -3, -2, -1, 0, 2, 3, 4, 5, 257)
	isNext(t, nil, 1, 1)
	isNext(t, nil, 2, 2)
	isNext(t, tags(), 1, 1)
	for _, c := range []struct{ id, one, other int }{
		{-7, 1, 2}, {-1, 1, 2}, {0, 1, 2}, {1, 3, 2}, {2, 3, 4}, {3, 5, 4}, {4, 5, 6}, {7, 9, 8}, {8, 9, 10}, {255, 257, 256}, {256, 257, 258},
		{1<<30 - 2, 1<<30 - 1, 1 << 30}, {1<<30 - 1, 1<<30 + 1, 1 << 30}, {1 << 30, 1<<30 + 1, 1<<30 + 2}, {1<<30 + 1, 0, 0}, {1<<30 + 2, 0, 0}, {1 << 31, 0, 0}, {1<<32 + 1, 0, 0}, {math.MaxInt, 0, 0}, {math.MaxInt - 1, 0, 0}, {math.MinInt, 1, 2}, {math.MinInt + 1, 1, 2},
	} {
		isNext(t, tags(own(c.id, 1, 0)), 1, c.one)
		isNext(t, tags(orphan(c.id, 2, 9)), 1, c.one)
		for _, site := range others {
			isNext(t, nil, site, 2)
			isNext(t, tags(own(c.id, 1, 0)), site, c.other)
			isNext(t, tags(own(c.id, 2, 0)), site, c.other)
		}
	}
}

// TestNextOfMany: the greatest ID counts, wherever it is.
func TestNextOfMany(t *testing.T) {
	isNext(t, tags(own(4, 1, 0), own(3, 2, 9)), 2, 6)
	isNext(t, tags(own(3, 1, 0), own(4, 2, 9), own(1, 1, 9)), 1, 5)
	isNext(t, tags(own(-3, 1, 0), own(-4, 2, 9)), 1, 1)
	isNext(t, tags(own(-3, 1, 0), own(5, 2, 9), own(5, 2, 9)), 2, 6)
	for i := range 5 {
		l := full(5, 1)
		l[i].ID = api.MaxID + 1
		isNext(t, l, 1, 0)
		isNext(t, l, 2, 0)
		l[i].ID = math.MinInt
		isNext(t, l, 1, next(l, 1))
	}
	r := rand.New(rand.NewSource(61))
	for range 20000 {
		l := loose(r)
		for site := -1; site < 4; site++ {
			isNext(t, l, site, next(l, site))
		}
	}
}

// TestNextGoesOn: a chain, and a tag of the Next behind it, is a chain as long as there is room.
func TestNextGoesOn(t *testing.T) {
	for _, l := range right() {
		for site := 1; site <= 2; site++ {
			id := chain.Next(l, site)
			more := append(slices.Clone(l), own(id, site, api.MaxSeq))
			isRight(t, more, len(l) < api.MaxTags && id <= api.MaxID)
			if id%2 != site%2 {
				t.Errorf("P6.1: Next of %s, site %d: %d", tell(l), site, id)
			}
		}
	}
}

// P6.2

// loose is a list of some tags of few numbers, mostly no chain.
func loose(r *rand.Rand) []api.Tag {
	var l []api.Tag
	for range r.Intn(5) {
		l = append(l, api.Tag{ID: r.Intn(5) - 1, Owner: r.Intn(3), Heir: r.Intn(2), At: r.Intn(7) - 2})
		if r.Intn(40) == 0 {
			l[len(l)-1].At = far()[r.Intn(len(far()))]
		}
		if r.Intn(40) == 0 {
			l[len(l)-1].ID = far()[r.Intn(len(far()))]
		}
	}
	return l
}

// partner is a list that begins as l does, for some tags.
func partner(r *rand.Rand, l []api.Tag) []api.Tag {
	n := r.Intn(len(l) + 1)
	p := append(slices.Clone(l[:n]), loose(r)...)
	if n > 0 && r.Intn(4) == 0 {
		p[n-1] = fields(p[n-1])[r.Intn(28)]
	}
	return p
}

// isOf fails the test, unless Of tells want.
func isOf(t *testing.T, l []api.Tag, seq, want int) {
	t.Helper()
	if got := chain.Of(l, seq); got != want {
		t.Errorf("P6.2: Of %s, seq %d: %d, not %d", tell(l), seq, got, want)
	}
}

func TestOf(t *testing.T) {
	for _, seq := range append(far(), -1, 0, 1, 4) {
		isOf(t, nil, seq, 0)
		isOf(t, tags(), seq, 0)
	}
	l := tags(own(1, 1, 0), orphan(3, 2, 5), own(4, 2, 5), own(5, 1, 9))
	for seq, want := range map[int]int{math.MinInt: 0, -1: 0, 0: 0, 1: 1, 2: 1, 4: 1, 5: 1, 6: 4, 8: 4, 9: 4, 10: 5, 11: 5, math.MaxInt: 5} {
		isOf(t, l, seq, want)
	}
	isOf(t, tags(own(9, 1, 7)), 7, 0)
	isOf(t, tags(own(9, 1, 7)), 8, 9)
	isOf(t, tags(own(9, 1, 7)), 3, 0)
	isOf(t, tags(own(9, 1, api.MaxSeq)), api.MaxSeq, 0)
	isOf(t, tags(own(9, 1, api.MaxSeq)), api.MaxSeq+1, 9)
}

// TestOfNoOrder: the last one in the list counts, whatever the Ats ahead of it are, and whatever the IDs are.
func TestOfNoOrder(t *testing.T) {
	isOf(t, tags(own(7, 1, 9), own(8, 1, 2)), 5, 8)
	isOf(t, tags(own(7, 1, 9), own(8, 1, 2)), 10, 8)
	isOf(t, tags(own(7, 1, 2), own(8, 1, 9)), 5, 7)
	isOf(t, tags(own(7, 1, 2), own(8, 1, 9), own(6, 1, 3)), 5, 6)
	isOf(t, tags(own(7, 1, 2), own(8, 1, 9), own(6, 1, 3)), 3, 7)
	isOf(t, tags(own(7, 1, 2), own(8, 1, 2), own(6, 1, 2)), 3, 6)
	isOf(t, tags(own(-7, 1, -2)), -1, -7)
	isOf(t, tags(own(0, 1, 0), own(5, 1, 8)), 3, 0)
	isOf(t, tags(own(5, 1, 0), own(0, 1, 1)), 3, 0)
	isOf(t, tags(own(5, 1, math.MinInt)), math.MinInt, 0)
	isOf(t, tags(own(5, 1, math.MinInt)), math.MaxInt, 5)
	isOf(t, tags(own(5, 1, math.MaxInt)), math.MaxInt, 0)
	r := rand.New(rand.NewSource(62))
	for range 20000 {
		l, want := loose(r), 0
		seq := r.Intn(9) - 3
		for i := range l {
			if l[i].At < seq {
				want = l[i].ID
			}
		}
		isOf(t, l, seq, want)
	}
}

// isCut fails the test, unless Cut answers the first n of l.
func isCut(t *testing.T, l []api.Tag, end, n int) {
	t.Helper()
	if got := chain.Cut(l, end); !same(got, l[:n]) {
		t.Errorf("P6.2: Cut of %s at %d: %s, not %d", tell(l), end, tell(got), n)
	}
}

func TestCut(t *testing.T) {
	for _, end := range append(far(), -1, 0, 1, 4) {
		isCut(t, nil, end, 0)
		isCut(t, tags(), end, 0)
	}
	l := tags(own(1, 1, 0), orphan(3, 2, 5), own(4, 2, 5), own(5, 1, 9))
	for end, n := range map[int]int{math.MinInt: 0, -2: 0, -1: 0, 0: 1, 1: 1, 4: 1, 5: 3, 6: 3, 8: 3, 9: 4, 10: 4, math.MaxInt: 4} {
		isCut(t, l, end, n)
	}
	for _, l := range right() {
		for i, tag := range l {
			n, low := i, i
			for n < len(l) && l[n].At == tag.At {
				n++
			}
			for low > 0 && l[low-1].At == tag.At {
				low--
			}
			isCut(t, l, tag.At, n)
			isCut(t, l, tag.At-1, low)
		}
		isCut(t, l, api.MaxSeq, len(l))
	}
}

// TestCutNoOrder: nothing behind the first At that is above end is left, be its own At what it may.
func TestCutNoOrder(t *testing.T) {
	isCut(t, tags(own(1, 1, 9), own(2, 1, 0)), 3, 0)
	isCut(t, tags(own(1, 1, 2), own(2, 1, 9), own(3, 1, 1)), 3, 1)
	isCut(t, tags(own(1, 1, 2), own(2, 1, 1), own(3, 1, 3), own(4, 1, 4)), 3, 3)
	isCut(t, tags(own(1, 1, -2), own(2, 1, -9), own(3, 1, 3)), -1, 2)
	isCut(t, tags(own(1, 1, math.MinInt), own(2, 1, math.MaxInt)), math.MinInt, 1)
	isCut(t, tags(own(1, 1, math.MinInt), own(2, 1, math.MaxInt)), math.MaxInt, 2)
	r := rand.New(rand.NewSource(63))
	for range 20000 {
		l := loose(r)
		end := r.Intn(9) - 3
		n := slices.IndexFunc(l, func(t api.Tag) bool { return t.At > end })
		if n < 0 {
			n = len(l)
		}
		isCut(t, l, end, n)
	}
}

// begins is what Begins should tell, by the document's words, tag for tag.
func begins(a []api.Tag, ae int, b []api.Tag, be int) bool {
	if len(b) < len(a) || !same(a, b[:len(a)]) {
		return false
	}
	rest := b[len(a):]
	if len(rest) == 0 {
		return ae <= be
	}
	return ae <= rest[0].At
}

// fork is what Fork should tell: the least of all that bounds it.
func fork(a []api.Tag, ae int, b []api.Tag, be int) int {
	for len(a) > 0 && len(b) > 0 && same(a[:1], b[:1]) {
		a, b = a[1:], b[1:]
	}
	bounds := []int{ae, be}
	for _, l := range [][]api.Tag{a, b} {
		for _, t := range l[:min(1, len(l))] {
			bounds = append(bounds, t.At)
		}
	}
	slices.Sort(bounds)
	if bounds[0] < 0 {
		return 0
	}
	return bounds[0]
}

// two fails the test, unless Begins, Compare and Fork tell of the two histories, and of them turned about, just that.
func two(t *testing.T, a []api.Tag, ae int, b []api.Tag, be, order, at int) {
	t.Helper()
	what := fmt.Sprintf("%s, %d, and %s, %d", tell(a), ae, tell(b), be)
	less, more := order == 0 || order == -1, order == 0 || order == 1
	if got := chain.Begins(a, ae, b, be); got != less {
		t.Errorf("P6.2: Begins of %s: %v", what, got)
	}
	if got := chain.Begins(b, be, a, ae); got != more {
		t.Errorf("P6.2: Begins, turned about, of %s: %v", what, got)
	}
	if got := chain.Compare(a, ae, b, be); got != order {
		t.Errorf("P6.2: Compare of %s: %d, not %d", what, got, order)
	}
	if order != 2 {
		order = -order
	}
	if got := chain.Compare(b, be, a, ae); got != order {
		t.Errorf("P6.3: Compare, turned about, of %s: %d, not %d", what, got, order)
	}
	if got, back := chain.Fork(a, ae, b, be), chain.Fork(b, be, a, ae); got != at || back != at {
		t.Errorf("P6.2: Fork of %s: %d, turned about %d, not %d", what, got, back, at)
	}
}

// asTold fails the test, unless the two histories are told of as the document's words have it.
func asTold(t *testing.T, a []api.Tag, ae int, b []api.Tag, be int) {
	t.Helper()
	less, more, order := begins(a, ae, b, be), begins(b, be, a, ae), 2
	switch {
	case less && more:
		order = 0
	case less:
		order = -1
	case more:
		order = 1
	}
	two(t, a, ae, b, be, order, fork(a, ae, b, be))
}

func TestHistoriesOfOneChain(t *testing.T) {
	for _, l := range append(right(), nil, tags()) {
		two(t, l, api.MaxSeq, l, api.MaxSeq, 0, api.MaxSeq)
		two(t, l, api.MaxSeq, l, api.MaxSeq+1, -1, api.MaxSeq)
		two(t, l, api.MaxSeq, slices.Clone(l), api.MaxSeq-1, 1, api.MaxSeq-1)
		two(t, l, 0, l, 0, 0, 0)
		two(t, l, 3, l, 5, -1, 3)
		two(t, l, 5, l, 3, 1, 3)
		two(t, l, -3, l, -5, 1, 0)
		two(t, l, -3, l, 5, -1, 0)
		two(t, l, math.MinInt, l, math.MaxInt, -1, 0)
		two(t, l, math.MaxInt, l, math.MaxInt, 0, math.MaxInt)
		two(t, l, math.MinInt, l, math.MinInt, 0, 0)
	}
}

func TestHistoriesOfNone(t *testing.T) {
	a := own(1, 1, 0)
	two(t, nil, 0, nil, 0, 0, 0)
	two(t, nil, 0, tags(), 0, 0, 0)
	two(t, nil, 7, nil, 3, 1, 3)
	two(t, nil, 0, tags(a), 7, -1, 0)
	two(t, nil, 0, tags(a), 0, -1, 0)
	two(t, nil, 1, tags(a), 7, 2, 0)
	two(t, nil, -1, tags(a), 7, -1, 0)
	two(t, nil, 0, tags(a), -7, -1, 0)
	two(t, nil, 5, tags(own(1, 1, 5)), 7, -1, 5)
	two(t, nil, 6, tags(own(1, 1, 5)), 7, 2, 5)
	two(t, nil, 4, tags(own(1, 1, 5)), 7, -1, 4)
	two(t, nil, 1, tags(own(1, 1, -9)), 1, 2, 0)
	two(t, nil, -9, tags(own(1, 1, -9)), 1, -1, 0)
}

// TestHistoriesOfABeginning: at each length of a chain, with ends about the next tag's At.
func TestHistoriesOfABeginning(t *testing.T) {
	a, b, c := own(1, 1, 0), orphan(3, 2, 5), own(4, 2, 5)
	two(t, tags(a), 4, tags(a, b, c), 9, -1, 4)
	two(t, tags(a), 5, tags(a, b, c), 9, -1, 5)
	two(t, tags(a), 6, tags(a, b, c), 9, 2, 5)
	two(t, tags(a, b), 5, tags(a, b, c), 9, -1, 5)
	two(t, tags(a, b), 5, tags(a, b, c), 5, -1, 5)
	two(t, tags(a, b), 6, tags(a, b, c), 9, 2, 5)
	two(t, tags(a, b), 5, tags(a), 5, 1, 5)
	for _, l := range right() {
		end := l[len(l)-1].At + 3
		for n := range l {
			at := l[n].At
			two(t, l[:n], at, l, end, -1, at)
			two(t, l[:n], at+1, l, end, 2, at)
			two(t, l[:n], at-1, l, end, -1, max(0, at-1))
			two(t, l[:n], math.MaxInt, l, end, 2, at)
			two(t, l[:n], math.MinInt, l, end, -1, 0)
		}
	}
}

// TestHistoriesThatPart: at each place of a chain a tag that differs in one field, each field in turn, up or down.
func TestHistoriesThatPart(t *testing.T) {
	for _, l := range right() {
		end := l[len(l)-1].At + 3
		for n, tag := range l {
			for _, odd := range fields(tag) {
				other := slices.Clone(l)
				other[n] = odd
				at := max(0, min(tag.At, odd.At))
				two(t, l, end, other, end, 2, min(at, end))
				two(t, l, end, other[:n+1], odd.At, 2, at)
				two(t, l[:n+1], end, other, math.MaxInt, 2, at)
				two(t, l, at, other, at, 2, at)
				two(t, l, -1, other, -1, 2, 0)
			}
		}
	}
	x := own(6, 2, 5)
	a, b, c := own(1, 1, 0), orphan(3, 2, 5), own(4, 2, 5)
	two(t, tags(a, b, c), 9, tags(a, x), 9, 2, 5)
	two(t, tags(a, b, c), 3, tags(a, x), 9, 2, 3)
	two(t, tags(x), 5, tags(a), 5, 2, 0)
	two(t, tags(x), 5, tags(own(8, 1, 7)), 9, 2, 5)
	two(t, tags(a, b, c), 9, tags(a, b, own(7, 1, 8)), 12, 2, 5)
}

// TestHistoriesOfEachShortChain: all histories of up to three tags of few numbers, held against what a history is.
func TestHistoriesOfEachShortChain(t *testing.T) {
	type history struct {
		l   []api.Tag
		end int
	}
	var all []history
	add := func(l []api.Tag) {
		for end := l[len(l)-1].At; end <= 3; end++ {
			all = append(all, history{l, end})
		}
	}
	for _, first := range []int{1, 2} {
		one := tags(own(first, 1, 0))
		add(one)
		for at := range 4 {
			for _, id := range []int{3, 4} {
				l := append(slices.Clone(one), own(id, 2, at))
				add(l)
				for more := at; more <= 3; more++ {
					add(append(slices.Clone(l), own(id+2, 1, more)))
				}
			}
		}
	}
	for _, a := range all {
		for _, b := range all {
			at := oneUpTo(a.l, a.end, b.l, b.end)
			less, more := within(a.l, a.end, b.l, b.end), within(b.l, b.end, a.l, a.end)
			order := map[[2]bool]int{{true, true}: 0, {true, false}: -1, {false, true}: 1, {false, false}: 2}[[2]bool{less, more}]
			two(t, a.l, a.end, b.l, b.end, order, at)
			if less && at != a.end {
				t.Fatalf("P6.3: the Fork of a beginning %v, %v isn't its end: %d", a, b, at)
			}
		}
	}
}

// oneUpTo is the greatest number of events up to which the tags that any of them lies behind are the same ones in both histories.
func oneUpTo(a []api.Tag, ae int, b []api.Tag, be int) int {
	at := 0
	for n := 1; n <= min(ae, be); n++ {
		if same(ahead(a, n), ahead(b, n)) {
			at = n
		}
	}
	return at
}

// ahead is the tags of l that stand ahead of an event n.
func ahead(l []api.Tag, n int) []api.Tag {
	var some []api.Tag
	for _, t := range l {
		if t.At < n {
			some = append(some, t)
		}
	}
	return some
}

// within tells whether the one history comes to be the other one, if events and tags are added behind it alone.
func within(a []api.Tag, ae int, b []api.Tag, be int) bool {
	if len(a) > len(b) || ae > be {
		return false
	}
	for i, t := range b {
		if i < len(a) && t != a[i] || i >= len(a) && t.At < ae {
			return false
		}
	}
	return true
}

// TestHistoriesOfAnyLists: lists that are no chains, and ends of any size.
func TestHistoriesOfAnyLists(t *testing.T) {
	r := rand.New(rand.NewSource(64))
	end := func() int {
		if r.Intn(30) == 0 {
			return far()[r.Intn(len(far()))]
		}
		return r.Intn(9) - 3
	}
	for range 30000 {
		a := loose(r)
		asTold(t, a, end(), partner(r, a), end())
		asTold(t, a, end(), a, end())
		asTold(t, a, end(), a[:r.Intn(len(a)+1)], end())
	}
	for _, l := range wrong() {
		asTold(t, l, end(), partner(r, l), end())
		asTold(t, l, end(), l, end())
	}
	// The greatest and the least Ats: they are held against one another, not reckoned with.
	for _, at := range far() {
		for _, ae := range far() {
			for _, be := range far() {
				asTold(t, nil, ae, tags(own(1, 1, at)), be)
				asTold(t, tags(own(2, 1, at)), ae, tags(own(2, 1, at), own(3, 1, be)), be)
				asTold(t, tags(own(2, 1, at)), ae, tags(own(3, 1, ae)), be)
			}
		}
	}
}

// P6.2: Same

func isSame(t *testing.T, a, b []api.Tag, want bool) {
	t.Helper()
	if chain.Same(a, b) != want || chain.Same(b, a) != want {
		t.Errorf("P6.2: Same of %s, and of %s, isn't %v", tell(a), tell(b), want)
	}
}

func TestSame(t *testing.T) {
	isSame(t, nil, nil, true)
	isSame(t, nil, tags(), true)
	isSame(t, nil, tags(api.Tag{}), false)
	all := append(append(right(), wrong()[:60]...), full(40, 1), tags(own(-1, 7, -9)))
	for _, a := range all {
		isSame(t, a, a, true)
		isSame(t, a, slices.Clone(a), true)
		for _, b := range all {
			isSame(t, a, b, same(a, b))
		}
	}
}

func TestSameButForOneField(t *testing.T) {
	for _, l := range append(right(), full(50, 1), tags(api.Tag{})) {
		for n, tag := range l {
			for _, odd := range fields(tag) {
				other := slices.Clone(l)
				other[n] = odd
				isSame(t, l, other, false)
			}
			isSame(t, l, l[:n], false)
		}
		isSame(t, l, append(slices.Clone(l), api.Tag{}), false)
		isSame(t, l, append(slices.Clone(l), l[len(l)-1]), false)
		if len(l) > 1 {
			turned := slices.Clone(l)
			slices.Reverse(turned)
			isSame(t, l, turned, false)
		}
	}
}

// P6.3

// drawn is a chain, and an end that it may have.
func drawn(r *rand.Rand) ([]api.Tag, int) {
	var l []api.Tag
	at, steps := 0, []int{1, 3, 200, 1 << 20, 1 << 34}
	for range 1 + r.Intn(api.MaxTags) {
		site := 1 + r.Intn(2)
		t := own(chain.Next(l, site)+2*r.Intn(1+r.Intn(1<<24)), site, at)
		if r.Intn(3) == 0 {
			t.Owner, t.Heir = 0, site
		}
		l = append(l, t)
		at += r.Intn(steps[r.Intn(len(steps))] + 1)
	}
	return l, at
}

func TestGetOfPutIsIt(t *testing.T) {
	r := rand.New(rand.NewSource(65))
	all := right()
	for range 5000 {
		l, _ := drawn(r)
		all = append(all, l)
	}
	for _, l := range all {
		isRight(t, l, true)
		b, why := chain.Put(l)
		got, no := chain.Get(b)
		if why != api.OK || no != api.OK || !chain.Same(got, l) || !same(got, l) {
			t.Fatalf("P6.3: Get of the Put of %s: %s, %v, %v", tell(l), tell(got), why, no)
		}
	}
}

// TestCompareTurnedAbout, and a beginning's Fork: of histories that come one from the other by a cut, or that go on each by itself.
func TestCompareTurnedAbout(t *testing.T) {
	r := rand.New(rand.NewSource(66))
	for range 5000 {
		a, ae := drawn(r)
		end := r.Intn(ae + 1)
		begin := chain.Cut(a, end)
		if got := chain.Compare(begin, end, a, ae); got != -1 && got != 0 {
			t.Fatalf("P6.3: Compare of %s, cut at %d: %d", tell(a), end, got)
		}
		if got := chain.Fork(begin, end, a, ae); got != end {
			t.Fatalf("P6.3: Fork of %s, cut at %d: %d", tell(a), end, got)
		}
		b := append(chain.Cut(a, end), own(chain.Next(a, 1), 1, end))
		be := end + r.Intn(9)
		asTold(t, a, ae, b, be)
		if got := chain.Fork(a, ae, b, be); got != end {
			t.Fatalf("P6.2: Fork of %s and %s, which part at %d: %d", tell(a), tell(b), end, got)
		}
	}
}

// R1

// TestAnyList: lists of any length and numbers: calls end, and none panics.
func TestAnyList(t *testing.T) {
	r := rand.New(rand.NewSource(67))
	long := make([]api.Tag, 1<<20)
	for i := range long {
		long[i] = own(i+1, 1, i)
	}
	isRight(t, long, false)
	isNext(t, long, 1, 1<<20+1)
	isOf(t, long, 1<<19, 1<<19)
	isOf(t, long, 0, 0)
	if n := len(chain.Cut(long, 1<<19)); n != 1<<19+1 {
		t.Errorf("P6.2: Cut of many tags: %d", n)
	}
	if !chain.Same(long, slices.Clone(long)) || chain.Same(long, long[1:]) {
		t.Error("P6.2: Same of many tags")
	}
	if chain.Compare(long[:1000], 1000, long, 1<<20) != -1 || chain.Fork(long, 5, long[:77], 1<<21) != 5 || chain.Fork(long, 500, long[:77], 1<<21) != 77 {
		t.Error("P6.2: Compare, Fork of many tags")
	}
	for range 100000 {
		b := make([]byte, r.Intn(30))
		r.Read(b)
		if len(b) > 0 {
			b[0] %= 40
		}
		sound(t, b)
	}
	refuses(t, "many bytes", bytes.Repeat([]byte{1}, 1<<20))
	refuses(t, "many bytes", bytes.Repeat([]byte{32}, 1<<20))
	refuses(t, "many bytes", bytes.Repeat([]byte{255}, 1<<20))
}

// R2

// roomy is l in memory of its own, with spare room behind it in which other tags lie.
func roomy(l []api.Tag) []api.Tag {
	m := append(slices.Clone(l), own(99, 1, 3), orphan(98, 2, 4), own(97, 2, 5))
	return m[:len(l)]
}

// whole is l, and what lies in its spare room.
func whole(l []api.Tag) string {
	return fmt.Sprint(len(l), l[:cap(l)])
}

// spoil writes over all of l, its spare room too.
func spoil(l []api.Tag) {
	l = l[:cap(l)]
	for i := range l {
		l[i] = api.Tag{ID: -5, Owner: -5, Heir: -5, At: -5}
	}
}

func TestNothingHandedInIsChanged(t *testing.T) {
	for _, l := range append(right(), wrong()...) {
		a, b := roomy(l), roomy(l[:len(l)/2])
		wasA, wasB := whole(a), whole(b)
		chain.Right(a)
		chain.Put(a)
		chain.Next(a, 1)
		chain.Of(a, 3)
		chain.Cut(a, 3)
		chain.Cut(a, api.MaxSeq)
		chain.Begins(b, 3, a, 5)
		chain.Compare(a, 9, b, 3)
		chain.Fork(a, 9, b, 3)
		chain.Same(a, b)
		if whole(a) != wasA || whole(b) != wasB {
			t.Fatalf("R2: %s was changed: %s, %s", tell(l), whole(a), whole(b))
		}
		bytesOf := append(byHand(l), "spare"...)
		was := string(bytesOf)
		chain.Get(bytesOf[:len(bytesOf)-5])
		if string(bytesOf) != was {
			t.Fatalf("R2: bytes were changed by Get of %s", tell(l))
		}
	}
}

func TestAnswersAreNewMemory(t *testing.T) {
	for _, l := range right() {
		for _, end := range []int{-1, 0, 3, l[len(l)-1].At, math.MaxInt} {
			a := roomy(l)
			was := whole(a)
			one, two := chain.Cut(a, end), chain.Cut(a, end)
			told := fmt.Sprint(two)
			spoil(one)
			if whole(a) != was || fmt.Sprint(two) != told {
				t.Fatalf("R2: Cut of %s at %d shares memory", tell(l), end)
			}
			spoil(a)
			if fmt.Sprint(two) != told {
				t.Fatalf("R2: Cut of %s at %d shares memory with what was handed in", tell(l), end)
			}
		}
		b := byHand(l)
		one, _ := chain.Get(b)
		two, _ := chain.Get(b)
		spoil(one)
		clear(b)
		if !same(two, l) {
			t.Fatalf("R2: Gets of %s share memory", tell(l))
		}
		first, _ := chain.Put(l)
		second, _ := chain.Put(l)
		clear(first[:cap(first)])
		if !bytes.Equal(second, byHand(l)) {
			t.Fatalf("R2: Puts of %s share memory", tell(l))
		}
	}
}

// R4, R5

// TestSpareRoomIsNotRead: what lies behind a list's length is none of it.
func TestSpareRoomIsNotRead(t *testing.T) {
	a := tags(own(1, 1, 0), orphan(3, 2, 5), own(api.MaxID+1, 7, 2))
	isRight(t, a[:2], true)
	isNext(t, a[:2], 1, 5)
	isOf(t, a[:1], 9, 1)
	isCut(t, a[:1], 9, 1)
	two(t, a[:1], 9, a[:1], 9, 0, 9)
	two(t, a[:1], 5, a[:2], 9, -1, 5)
	isSame(t, a[:1], tags(own(1, 1, 0), own(8, 1, 9))[:1], true)
	b := append(byHand(a[:2]), 9)
	gets(t, b[:len(b)-1], a[:2])
}

func TestNilAndEmpty(t *testing.T) {
	empty := full(2, 1)[:0]
	for _, l := range [][]api.Tag{nil, {}, empty} {
		isRight(t, l, false)
		isNext(t, l, 1, 1)
		isNext(t, l, 2, 2)
		isOf(t, l, 5, 0)
		isCut(t, l, 5, 0)
		isSame(t, l, nil, true)
		two(t, l, 2, nil, 2, 0, 2)
		two(t, l, 2, empty, 3, -1, 2)
		two(t, l, 0, tags(own(1, 1, 0)), 3, -1, 0)
	}
}
