package event_test

import (
	"bytes"
	"encoding/binary"
	"fmt"
	"math"
	"math/rand"
	"strings"
	"testing"

	"hectograph/api"
	"hectograph/event"
)

func write(off int, data string) api.Event {
	return api.Event{Kind: api.Write, Off: off, Data: []byte(data)}
}

func discard(off, n int) api.Event {
	return api.Event{Kind: api.Discard, Off: off, Len: n}
}

func zero(off, n int) api.Event {
	return api.Event{Kind: api.Zero, Off: off, Len: n}
}

func resize(n int) api.Event {
	return api.Event{Kind: api.Resize, Len: n}
}

func named(kind int, name string) api.Event {
	return api.Event{Kind: kind, Name: name}
}

func flush() api.Event {
	return api.Event{Kind: api.Flush}
}

// long is a text of n bytes, no two side by side alike.
func long(n int) string {
	b := make([]byte, n)
	for i := range b {
		b[i] = byte(7*i + 1)
	}
	return string(b)
}

// far is numbers that are nowhere near a limit, those among them which an addition may carry over the edge.
func far() []int {
	return []int{math.MinInt, math.MinInt + 1, math.MinInt + api.MaxSize, math.MinInt32, -api.MaxSize, 1 << 16, math.MaxInt32, 1 << 32, 1<<32 + 1, 1 << 62, math.MaxInt - api.MaxSize, math.MaxInt - api.MaxSize + 1, math.MaxInt - 1, math.MaxInt}
}

// right is events that a guest may do, of each Kind, the edges among them.
func right() []api.Event {
	return []api.Event{
		write(0, "a"), write(1, "\x00"), write(127, "ab"), write(128, "\xff\xfe"), write(300, "HGJE"), write(511, "z"), write(510, "zz"),
		write(0, long(64)), write(448, long(64)), write(447, long(64)), write(449, long(63)), write(5, strings.Repeat("\x00", 64)),
		discard(0, 1), discard(0, 512), discard(511, 1), discard(1, 511), discard(127, 128), discard(128, 127), discard(256, 256), discard(3, 7),
		zero(0, 1), zero(0, 512), zero(511, 1), zero(1, 511), zero(127, 128), zero(128, 127), zero(256, 256), zero(3, 7),
		resize(0), resize(1), resize(127), resize(128), resize(511), resize(512),
		named(api.Snap, "a"), named(api.Snap, "z"), named(api.Snap, "0-9-a-z"), named(api.Snap, "abcdefghijkl"),
		named(api.Unsnap, "-"), named(api.Unsnap, "0"), named(api.Unsnap, "mnopqrstuvwx"),
		named(api.Roll, "9"), named(api.Roll, "ab"), named(api.Roll, "------------"), named(api.Roll, "yz0123456789"),
		flush(),
	}
}

// wrong is events that a guest may not do: each field at its edge and far off.
func wrong() []api.Event {
	l := []api.Event{{}, {Kind: 9}, {Kind: -1}, {Kind: api.Write}, {Kind: api.Write, Data: []byte{}}, {Kind: api.Discard}, {Kind: api.Zero}, {Kind: api.Snap}, {Kind: api.Unsnap}, {Kind: api.Roll}}
	for _, n := range []int{65, 66, 128, 256, 257, 512, 513, 1 << 16, 1<<16 + 1} {
		l = append(l, write(0, long(n)))
	}
	l = append(l, write(-1, "a"), write(-1, "ab"), write(-64, long(64)), write(512, "a"), write(513, "a"), write(511, "ab"), write(449, long(64)), write(450, long(63)), write(0, ""), write(512, ""))
	for _, kind := range []int{api.Discard, api.Zero} {
		for _, c := range [][2]int{{0, 0}, {0, -1}, {0, 513}, {-1, 1}, {-1, 2}, {-1, 512}, {-512, 512}, {512, 0}, {512, 1}, {511, 2}, {1, 512}, {2, 511}, {256, 257}, {513, -1}, {600, -100}} {
			l = append(l, api.Event{Kind: kind, Off: c[0], Len: c[1]})
		}
		for _, n := range far() {
			l = append(l, api.Event{Kind: kind, Off: n, Len: 1}, api.Event{Kind: kind, Len: n})
			for _, m := range far() {
				l = append(l, api.Event{Kind: kind, Off: n, Len: m})
			}
		}
	}
	for _, n := range append(far(), -1, 513, 514, 1024) {
		l = append(l, resize(n))
	}
	for _, n := range far() {
		l = append(l, write(n, "a"), write(n, long(64)))
	}
	for _, kind := range []int{api.Snap, api.Unsnap, api.Roll} {
		for _, s := range []string{"", "A", "a b", "a_", "aaaaaaaaaaaaa", "é", "\x00", "\xff", "a\n", strings.Repeat("a", 257), strings.Repeat("a", 268)} {
			l = append(l, named(kind, s))
		}
	}
	return l
}

// names tells which fields an event of that Kind names: Off, Len, Data, Name.
func names(kind int) [4]bool {
	switch kind {
	case api.Write:
		return [4]bool{0: true, 2: true}
	case api.Discard, api.Zero:
		return [4]bool{0: true, 1: true}
	case api.Resize:
		return [4]bool{1: true}
	case api.Snap, api.Unsnap, api.Roll:
		return [4]bool{3: true}
	}
	return [4]bool{}
}

// others is e with just one field as another value has it; the rows go by that field: Off, Len, Data, Name.
func others(e api.Event) [4][]api.Event {
	var l [4][]api.Event
	for _, n := range append(far(), -1, 1, 2, api.MaxSize) {
		off, n2 := e, e
		off.Off, n2.Len = n, n
		l[0], l[1] = append(l[0], off), append(l[1], n2)
	}
	for _, s := range []string{"\x00", "a", "A", "ab", long(64), long(65)} {
		data, name := e, e
		data.Data, name.Name = []byte(s), s
		l[2], l[3] = append(l[2], data), append(l[3], name)
	}
	return l
}

// byHand is the bytes of an event that is Right, its numbers as Go's own library lays them.
func byHand(e api.Event) []byte {
	b := []byte{byte(e.Kind)}
	switch e.Kind {
	case api.Write:
		return append(binary.AppendUvarint(b, uint64(e.Off)), e.Data...)
	case api.Discard, api.Zero:
		return binary.AppendUvarint(binary.AppendUvarint(b, uint64(e.Off)), uint64(e.Len))
	case api.Resize:
		return binary.AppendUvarint(b, uint64(e.Len))
	}
	return append(b, e.Name...)
}

// same is what Same should tell of a and b.
func same(a, b api.Event) bool {
	return fmt.Sprintf("%d %d %d %x %x", a.Kind, a.Off, a.Len, a.Data, a.Name) == fmt.Sprintf("%d %d %d %x %x", b.Kind, b.Off, b.Len, b.Data, b.Name)
}

// tell is e in few words, however long its texts are.
func tell(e api.Event) string {
	return fmt.Sprintf("Kind %d, Off %d, Len %d, %d bytes %.20q, Name of %d bytes %.20q", e.Kind, e.Off, e.Len, len(e.Data), e.Data, len(e.Name), e.Name)
}

// isRight fails the test, unless Right tells want, and Put goes by it.
func isRight(t *testing.T, e api.Event, want bool) {
	t.Helper()
	if got := event.Right(e); got != want {
		t.Errorf("P5.1: Right of %s: %v", tell(e), got)
	}
	b, why := event.Put(e)
	if want && why != api.OK || !want && why != api.ErrArg {
		t.Errorf("P5.2: Put of %s: %v", tell(e), why)
	}
	if !want && len(b) > 0 {
		t.Errorf("R3: Put of %s answers %v beside a refusal", tell(e), b)
	}
}

// refuses fails the test, unless Get refuses b, and answers nothing beside that.
func refuses(t *testing.T, what string, b []byte) {
	t.Helper()
	e, why := event.Get(b)
	if why != api.ErrForm {
		t.Errorf("P5.2: Get of %s, %d bytes %.40v: %v, not ErrForm", what, len(b), b, why)
	}
	if !same(e, api.Event{}) {
		t.Errorf("R3: Get of %s, %d bytes %.40v, answers %s beside a refusal", what, len(b), b, tell(e))
	}
}

// gets fails the test, unless Get answers want.
func gets(t *testing.T, b []byte, want api.Event) {
	t.Helper()
	e, why := event.Get(b)
	if why != api.OK || !same(e, want) {
		t.Errorf("P5.2: Get of %v: %s, %v, not %s", b, tell(e), why, tell(want))
	}
}

// spans fails the test, unless Plain and Span tell just that.
func spans(t *testing.T, e api.Event, plain bool, off, n int) {
	t.Helper()
	if got := event.Plain(e); got != plain {
		t.Errorf("P5.1: Plain of %s: %v", tell(e), got)
	}
	if gotOff, gotN := event.Span(e); gotOff != off || gotN != n {
		t.Errorf("P5.1: Span of %s: %d, %d, not %d, %d", tell(e), gotOff, gotN, off, n)
	}
}

// P5.1: Name

func isName(t *testing.T, s string, want bool) {
	t.Helper()
	if got := event.Name(s); got != want {
		t.Errorf("P5.1: Name(%.30q) of %d bytes: %v", s, len(s), got)
	}
	for _, kind := range []int{api.Snap, api.Unsnap, api.Roll} {
		isRight(t, named(kind, s), want)
	}
}

func TestName(t *testing.T) {
	for _, s := range []string{"a", "z", "0", "9", "-", "a-9", "snap-1", "abcdefghijkl", "mnopqrstuvwx", "yz0123456789", "------------", "0-", "-0"} {
		isName(t, s, true)
	}
	for _, s := range []string{"", " ", "A", "Z", "a b", "a~", "a_", "a.", "\x00", "a\x00", "\x00a", "é", "aé", "a\n", "\xff", "\xc3", "a\x80", "ａ", "𝟘", "\u0660", "abcdefghijkL", "Abcdefghijkl", "abcdefghijklm", strings.Repeat("-", 24), strings.Repeat("a", 256), strings.Repeat("a", 257), strings.Repeat("a", 268), strings.Repeat("a", 1<<16+1), strings.Repeat("a", 1<<20)} {
		isName(t, s, false)
	}
}

func TestNameOfEachNumberOfBytes(t *testing.T) {
	for n := range 30 {
		isName(t, strings.Repeat("q", n), n >= 1 && n <= 12)
	}
	// Bytes are counted, not signs: four of three bytes each are 12 bytes, and none of a name's.
	isName(t, "ａａａａ", false)
}

func TestNameOfEachByteAtEachPlace(t *testing.T) {
	const bytesOfNames = "abcdefghijklmnopqrstuvwxyz0123456789-"
	for c := range 256 {
		want := strings.IndexByte(bytesOfNames, byte(c)) >= 0
		for n := 1; n <= 12; n++ {
			for at := range n {
				b := bytes.Repeat([]byte{'m'}, n)
				b[at] = byte(c)
				if got := event.Name(string(b)); got != want {
					t.Errorf("P5.1: Name(%q): %v", b, got)
				}
			}
		}
	}
}

// P5.1: Right

func TestRight(t *testing.T) {
	for _, e := range right() {
		isRight(t, e, true)
	}
	for _, e := range wrong() {
		isRight(t, e, false)
	}
}

// TestRightOfEachKind: what is Right of its own Kind, as another Kind: only what the other one names may be there.
func TestRightOfEachKind(t *testing.T) {
	for _, e := range right() {
		for _, kind := range append(far(), -8, -1, 0, 9, 10, 255, 256, 257, 258, 259, 260, 261, 262, 263, 264, 265) {
			e.Kind = kind
			isRight(t, e, false)
		}
	}
	for _, c := range []struct {
		e     api.Event
		kinds string // those that it may be
	}{
		{api.Event{Off: 1, Data: []byte("a")}, "1"},
		{api.Event{Data: []byte("a")}, "1"},
		{api.Event{Off: 1, Len: 2}, "23"},
		{api.Event{Len: 2}, "234"},
		{api.Event{Name: "a"}, "567"},
		{api.Event{}, "48"},
		{api.Event{Off: 1}, ""},
		{api.Event{Off: 1, Len: 1, Data: []byte("a")}, ""},
		{api.Event{Off: 1, Len: 1, Data: []byte("a"), Name: "a"}, ""},
	} {
		for kind := range 10 {
			c.e.Kind = kind
			isRight(t, c.e, strings.Contains(c.kinds, string(rune('0'+kind))))
		}
	}
}

func TestRightOfEachWrite(t *testing.T) {
	data := long(70)
	for off := -3; off < 520; off++ {
		for n := range 70 {
			isRight(t, write(off, data[:n]), n >= 1 && n <= 64 && off >= 0 && off+n <= 512)
		}
	}
}

func TestRightOfEachDiscardAndZero(t *testing.T) {
	for off := -2; off < 516; off++ {
		for n := -2; n < 516; n++ {
			want := n >= 1 && n <= 512 && off >= 0 && off+n <= 512
			if event.Right(discard(off, n)) != want || event.Right(zero(off, n)) != want {
				t.Fatalf("P5.1: Right of a Discard or a Zero of %d bytes at %d isn't %v", n, off, want)
			}
		}
	}
}

func TestRightOfEachResize(t *testing.T) {
	for n := -600; n < 1200; n++ {
		isRight(t, resize(n), n >= 0 && n <= 512)
	}
}

// TestRightOfWhatIsNotNamed: each field that a Kind does not name, set to many values, one by one.
func TestRightOfWhatIsNotNamed(t *testing.T) {
	for _, e := range right() {
		for field, l := range others(e) {
			if names(e.Kind)[field] {
				continue
			}
			for _, odd := range l {
				isRight(t, odd, false)
				spans(t, odd, false, 0, 0)
			}
		}
	}
}

// TestNilAndEmpty (R4): Data of no byte is no Data.
func TestNilAndEmpty(t *testing.T) {
	for _, e := range right() {
		if len(e.Data) > 0 {
			continue
		}
		without := e
		without.Data = nil
		e.Data = []byte{}
		isRight(t, e, true)
		isRight(t, without, true)
		a, _ := event.Put(e)
		b, _ := event.Put(without)
		if !bytes.Equal(a, b) || !event.Same(e, without) || !event.Same(without, e) {
			t.Errorf("R4: nil and empty Data of %s aren't alike", tell(e))
		}
		off, n := event.Span(without)
		spans(t, e, event.Plain(without), off, n)
	}
}

// P5.1: Plain, Span

func TestPlainAndSpan(t *testing.T) {
	for _, e := range right() {
		switch e.Kind {
		case api.Write:
			spans(t, e, true, e.Off, len(e.Data))
		case api.Discard, api.Zero:
			spans(t, e, true, e.Off, e.Len)
		default:
			spans(t, e, false, 0, 0)
		}
	}
	spans(t, write(3, "ab"), true, 3, 2)
	spans(t, write(448, long(64)), true, 448, 64)
	spans(t, discard(1, 4), true, 1, 4)
	spans(t, discard(0, 512), true, 0, 512)
	spans(t, zero(2, 5), true, 2, 5)
	spans(t, zero(511, 1), true, 511, 1)
	spans(t, resize(5), false, 0, 0)
	spans(t, named(api.Snap, "a"), false, 0, 0)
	spans(t, named(api.Unsnap, "a"), false, 0, 0)
	spans(t, named(api.Roll, "a"), false, 0, 0)
	spans(t, flush(), false, 0, 0)
}

func TestPlainAndSpanOfWhatIsNotRight(t *testing.T) {
	for _, e := range wrong() {
		spans(t, e, false, 0, 0)
	}
	for _, kind := range append(far(), -1, 0, 9, 257, 258, 259) {
		spans(t, api.Event{Kind: kind, Off: 2, Len: 3}, false, 0, 0)
		spans(t, api.Event{Kind: kind, Off: 2, Data: []byte("abc")}, false, 0, 0)
	}
}

// P5.1: Same

func isSame(t *testing.T, a, b api.Event, want bool) {
	t.Helper()
	if event.Same(a, b) != want || event.Same(b, a) != want {
		t.Errorf("P5.1: Same of %s, and of %s, isn't %v", tell(a), tell(b), want)
	}
}

// copied is e in other memory, with spare room behind its Data.
func copied(e api.Event) api.Event {
	e.Data = append(append(make([]byte, 0, len(e.Data)+9), e.Data...), "spare"...)[:len(e.Data)]
	e.Name = strings.Clone(e.Name)
	return e
}

func TestSame(t *testing.T) {
	full := api.Event{Kind: 7, Off: -1, Len: 2, Data: []byte("a"), Name: "Q"}
	all := append(append(right(), full, api.Event{}), wrong()[:30]...)
	for _, a := range all {
		isSame(t, a, a, true)
		isSame(t, a, copied(a), true)
		for _, b := range all {
			isSame(t, a, b, same(a, b))
		}
	}
}

func TestSameButForOneField(t *testing.T) {
	full := api.Event{Kind: 7, Off: -1, Len: 2, Data: []byte("a"), Name: "Q"}
	for _, e := range append(right(), full, api.Event{}) {
		for _, kind := range append(far(), -1, 0, 1, 2, 3, 4, 5, 6, 7, 8, 9, 256+e.Kind) {
			odd := e
			odd.Kind = kind
			isSame(t, e, odd, kind == e.Kind)
		}
		for _, l := range others(e) {
			for _, odd := range l {
				isSame(t, e, odd, same(e, odd))
			}
		}
		odd := copied(e)
		odd.Off++
		isSame(t, e, odd, false)
		odd = copied(e)
		odd.Len--
		isSame(t, e, odd, false)
		odd = copied(e)
		odd.Data = append(odd.Data, 0)
		isSame(t, e, odd, false)
		odd = copied(e)
		odd.Name += "\x00"
		isSame(t, e, odd, false)
		for i := range e.Data {
			odd = copied(e)
			odd.Data[i] ^= 1
			isSame(t, e, odd, false)
		}
		for i := range e.Name {
			odd = copied(e)
			odd.Name = e.Name[:i] + "!" + e.Name[i+1:]
			isSame(t, e, odd, false)
		}
	}
}

// P5.2: Put

// TestPutByHand: the bytes written out, so that no number is reckoned here.
func TestPutByHand(t *testing.T) {
	for _, c := range []struct {
		e    api.Event
		want string
	}{
		{flush(), "\x08"},
		{write(0, "a"), "\x01\x00a"},
		{write(127, "\x00\xff"), "\x01\x7f\x00\xff"},
		{write(128, "b"), "\x01\x80\x01b"},
		{write(300, "ab"), "\x01\xac\x02ab"},
		{write(511, "\x80"), "\x01\xff\x03\x80"},
		{discard(0, 1), "\x02\x00\x01"},
		{discard(1, 128), "\x02\x01\x80\x01"},
		{discard(300, 212), "\x02\xac\x02\xd4\x01"},
		{zero(0, 512), "\x03\x00\x80\x04"},
		{zero(511, 1), "\x03\xff\x03\x01"},
		{resize(0), "\x04\x00"},
		{resize(127), "\x04\x7f"},
		{resize(512), "\x04\x80\x04"},
		{named(api.Snap, "a-9"), "\x05a-9"},
		{named(api.Unsnap, "zzzzzzzzzzzz"), "\x06zzzzzzzzzzzz"},
		{named(api.Roll, "b"), "\x07b"},
	} {
		if got, why := event.Put(c.e); why != api.OK || string(got) != c.want {
			t.Errorf("P5.2: Put of %s: %q, %v, not %q", tell(c.e), got, why, c.want)
		}
		gets(t, []byte(c.want), c.e)
	}
}

func TestPut(t *testing.T) {
	for _, e := range right() {
		got, why := event.Put(e)
		if why != api.OK || !bytes.Equal(got, byHand(e)) {
			t.Errorf("P5.2: Put of %s: %v, %v, not %v", tell(e), got, why, byHand(e))
		}
	}
}

// P5.2: Get

func TestGet(t *testing.T) {
	for _, e := range right() {
		gets(t, byHand(e), e)
	}
}

func TestGetOfNothing(t *testing.T) {
	refuses(t, "nil", nil)
	refuses(t, "no byte", []byte{})
	refuses(t, "no byte, with room behind it", []byte{8}[:0])
}

// short is all events whose Put has at most three bytes, by these.
func short() map[string]api.Event {
	l := map[string]api.Event{}
	add := func(e api.Event) { l[string(byHand(e))] = e }
	add(flush())
	for off := range 128 {
		for c := range 256 {
			add(write(off, string([]byte{byte(c)})))
		}
		for n := 1; n < 128; n++ {
			add(discard(off, n))
			add(zero(off, n))
		}
	}
	for n := range 513 {
		add(resize(n))
	}
	const bytesOfNames = "-0123456789abcdefghijklmnopqrstuvwxyz"
	for _, kind := range []int{api.Snap, api.Unsnap, api.Roll} {
		for _, a := range bytesOfNames {
			add(named(kind, string(a)))
			for _, b := range bytesOfNames {
				add(named(kind, string(a)+string(b)))
			}
		}
	}
	return l
}

// TestGetOfEachShortRow: of all rows of up to three bytes just those are an event that are the Put of one.
func TestGetOfEachShortRow(t *testing.T) {
	l := short()
	look := func(b []byte) {
		e, why := event.Get(b)
		want, ok := l[string(b)]
		if ok && (why != api.OK || !event.Same(e, want)) || !ok && (why != api.ErrForm || !event.Same(e, api.Event{})) {
			t.Fatalf("P5.2: Get of %v: %s, %v", b, tell(e), why)
		}
	}
	for a := range 256 {
		look([]byte{byte(a)})
		for b := range 256 {
			look([]byte{byte(a), byte(b)})
			for c := range 256 {
				if a < 10 || a > 253 || a == 129 {
					look([]byte{byte(a), byte(b), byte(c)})
				}
			}
		}
	}
}

func TestGetOfEachLengthCutOff(t *testing.T) {
	for _, e := range right() {
		b := byHand(e)
		for n := range b {
			short := e
			switch {
			case e.Kind == api.Write && n >= len(b)-len(e.Data)+1:
				// Data has no end of its own: what is left is a Write of fewer bytes.
				short.Data = e.Data[:n-(len(b)-len(e.Data))]
				gets(t, b[:n], short)
			case len(e.Name) > 0 && n >= 2:
				short.Name = e.Name[:n-1]
				gets(t, b[:n], short)
			default:
				refuses(t, "a Put cut off", b[:n])
			}
		}
	}
}

func TestGetOfAByteMore(t *testing.T) {
	for _, e := range right() {
		b := byHand(e)
		for _, c := range []byte{0, 1, 'a', '-', 'A', 127, 128, 255} {
			more := append(bytes.Clone(b), c)
			longer := e
			switch {
			case e.Kind == api.Write:
				longer.Data = append(bytes.Clone(e.Data), c)
			case len(e.Name) > 0:
				longer.Name = e.Name + string([]byte{c})
			}
			if !same(longer, e) && event.Right(longer) {
				gets(t, more, longer)
			} else {
				refuses(t, "a Put, a byte behind it", more)
			}
			refuses(t, "a Put, a byte ahead of it", append([]byte{0}, b...))
		}
		if len(e.Data) == 0 && len(e.Name) == 0 {
			refuses(t, "a Put, many bytes behind it", append(bytes.Clone(b), long(500)...))
			refuses(t, "two Puts", append(bytes.Clone(b), b...))
		}
	}
}

// spelt is other rows that n might be read from, if longer Vars were read: with noughts behind them, one to the ninth byte, and beyond it.
func spelt(n int) [][]byte {
	var l [][]byte
	for more := 1; more <= 10; more++ {
		b := binary.AppendUvarint(nil, uint64(n))
		for range more {
			b[len(b)-1] |= 128
			b = append(b, 0)
		}
		l = append(l, b)
	}
	return l
}

func TestGetOfLongerVars(t *testing.T) {
	short := func(n int) []byte { return binary.AppendUvarint(nil, uint64(n)) }
	row := func(kind int, parts ...[]byte) []byte { return append([]byte{byte(kind)}, bytes.Join(parts, nil)...) }
	for _, n := range []int{0, 1, 5, 127, 128, 129, 300, 511, 512} {
		for _, b := range spelt(n) {
			refuses(t, "a Resize of a longer Var", row(api.Resize, b))
			for _, kind := range []int{api.Discard, api.Zero} {
				refuses(t, "an Off of a longer Var", row(kind, b, short(1)))
				refuses(t, "a Len of a longer Var", row(kind, short(0), b))
				refuses(t, "an Off and a Len of longer Vars", row(kind, b, b))
			}
			refuses(t, "a Write of a longer Var", row(api.Write, b, []byte("a")))
		}
	}
	// A number that goes on to b's end is none.
	for kind := 1; kind <= 4; kind++ {
		for n := range 20 {
			refuses(t, "a Var that doesn't end", row(kind, bytes.Repeat([]byte{128}, n+1)))
			refuses(t, "a Var that doesn't end", row(kind, bytes.Repeat([]byte{255}, n+1)))
			refuses(t, "a second Var that doesn't end", row(kind, short(512), bytes.Repeat([]byte{129}, n+1)))
		}
	}
}

// TestGetOfNumbersThatAreNotRight: well laid, but of no event that may be.
func TestGetOfNumbersThatAreNotRight(t *testing.T) {
	for _, e := range wrong() {
		if e.Off < 0 || e.Len < 0 || e.Kind < 0 {
			continue
		}
		refuses(t, "what isn't Right", byHand(e))
	}
	for _, n := range []uint64{math.MaxInt, math.MaxInt + 1, math.MaxUint64, math.MaxUint64 - 511, 1 << 62, 1<<63 - 512, 1<<32 + 1} {
		for kind := 1; kind <= 4; kind++ {
			one := binary.AppendUvarint([]byte{byte(kind)}, n)
			refuses(t, "a number too great", one)
			refuses(t, "a number too great", append(bytes.Clone(one), 1))
			refuses(t, "two numbers too great", binary.AppendUvarint(one, n))
			if kind != api.Write {
				refuses(t, "a second number too great", binary.AppendUvarint([]byte{byte(kind), 1}, n))
			}
		}
	}
}

func TestGetOfOtherKinds(t *testing.T) {
	for _, e := range right() {
		b := byHand(e)
		for kind := range 256 {
			if kind == 0 || kind > 8 {
				b[0] = byte(kind)
				refuses(t, "a Kind that is none", b)
			}
		}
	}
}

func TestGetOfNames(t *testing.T) {
	for _, kind := range []byte{5, 6, 7} {
		for _, s := range []string{"", "A", "aB", "a b", "é", "\x00", "a\x00", "\xff", "a~", "aaaaaaaaaaaaa", strings.Repeat("a", 90), strings.Repeat("a", 1<<16), "\x01a"} {
			refuses(t, "a name that is none", append([]byte{kind}, s...))
		}
		gets(t, append([]byte{kind}, "abcdefghijkl"...), named(int(kind), "abcdefghijkl"))
	}
}

// P5.3

// follows fails the test, unless Get of e's Put is e, and that is no longer than an entry's data.
func follows(t *testing.T, e api.Event) int {
	t.Helper()
	b, why := event.Put(e)
	if why != api.OK || len(b) < 1 || len(b) > api.MaxPayload || int(b[0]) != e.Kind {
		t.Fatalf("P5.3: Put of %s: %d bytes, %v", tell(e), len(b), why)
	}
	got, why := event.Get(b)
	if why != api.OK || !event.Same(got, e) {
		t.Fatalf("P5.3: Get of the Put of %s: %s, %v", tell(e), tell(got), why)
	}
	return len(b)
}

func TestGetOfPut(t *testing.T) {
	for _, e := range right() {
		follows(t, e)
		if b, _ := event.Put(e); !bytes.Equal(b, byHand(e)) {
			t.Errorf("P5.2: Put of %s: %v", tell(e), b)
		}
	}
	for off := range 512 {
		for n := 1; off+n <= 512; n++ {
			follows(t, discard(off, n))
			follows(t, zero(off, n))
			if n <= 64 {
				follows(t, write(off, long(n)))
			}
		}
	}
	for n := range 513 {
		follows(t, resize(n))
	}
}

// TestPutAtMost: how many bytes a Put of each Kind has at most.
func TestPutAtMost(t *testing.T) {
	for _, c := range []struct {
		e    api.Event
		want int
	}{
		{write(128, long(64)), 67}, {write(448, long(64)), 67}, {write(127, long(64)), 66},
		{discard(128, 128), 5}, {zero(256, 256), 5}, {resize(512), 3},
		{named(api.Snap, "abcdefghijkl"), 13}, {named(api.Unsnap, "abcdefghijkl"), 13}, {named(api.Roll, "abcdefghijkl"), 13}, {flush(), 1},
	} {
		if n := follows(t, c.e); n != c.want {
			t.Errorf("P5.3: Put of %s: %d bytes, not %d", tell(c.e), n, c.want)
		}
	}
}

func TestPutOfGet(t *testing.T) {
	r := rand.New(rand.NewSource(5))
	taken := 0
	for range 200000 {
		b := make([]byte, r.Intn(16))
		r.Read(b)
		for i := range b {
			switch r.Intn(4) {
			case 0:
				b[i] &= 3
			case 1:
				b[i] = byte('a' + r.Intn(26))
			case 2:
				b[i] &= 127
			}
		}
		if len(b) > 0 && r.Intn(8) > 0 {
			b[0] = byte(r.Intn(10))
		}
		e, why := event.Get(b)
		if why != api.OK {
			refuses(t, "any bytes", b)
			continue
		}
		taken++
		if again, no := event.Put(e); no != api.OK || !bytes.Equal(again, b) || !event.Right(e) {
			t.Fatalf("P5.3: Put of the Get of %v: %v, %v", b, again, no)
		}
	}
	if taken < 10000 {
		t.Errorf("only %d rows were events", taken)
	}
}

// R1, R2

func TestLongInputs(t *testing.T) {
	for _, n := range []int{1 << 16, 1 << 20} {
		for c := range 10 {
			refuses(t, "many bytes alike", bytes.Repeat([]byte{byte(c)}, n))
			refuses(t, "many bytes", append([]byte{byte(c)}, long(n)...))
		}
		isRight(t, write(0, long(n)), false)
		isRight(t, named(api.Snap, long(n)), false)
		isSame(t, write(0, long(n)), write(0, long(n)), true)
		isSame(t, write(0, long(n)), write(0, long(n)+"a"), false)
	}
}

func TestNewMemory(t *testing.T) {
	for _, e := range right() {
		given := copied(e)
		room := given.Data[:cap(given.Data)]
		before := bytes.Clone(room)
		b, _ := event.Put(given)
		row := append(append([]byte{}, b...), "spare"...)
		behind := bytes.Clone(row)
		got, _ := event.Get(row[:len(b)])
		event.Right(given)
		event.Plain(given)
		event.Span(given)
		event.Same(given, e)
		if !bytes.Equal(room, before) || !bytes.Equal(row, behind) {
			t.Fatalf("R2: what is handed in is changed: %s", tell(e))
		}
		spoil(b)
		spoil(got.Data)
		if !bytes.Equal(room, before) || !bytes.Equal(row, behind) || !same(given, e) {
			t.Errorf("R2: an answer shares memory with what was handed in: %s", tell(e))
		}
	}
}

func TestAnswersShareNothing(t *testing.T) {
	e := write(3, "abc")
	one, _ := event.Put(e)
	two, _ := event.Put(e)
	spoil(one)
	if !bytes.Equal(two, byHand(e)) {
		t.Error("R2: two answers of Put share memory")
	}
	first, _ := event.Get(two)
	second, _ := event.Get(two)
	spoil(first.Data)
	if !same(second, e) {
		t.Error("R2: two answers of Get share memory")
	}
	spoil(two)
	if !same(second, e) {
		t.Error("R2: Get keeps what was handed in")
	}
}

// spoil writes all over b, its spare room too.
func spoil(b []byte) {
	b = b[:cap(b)]
	for i := range b {
		b[i] ^= 0x55
	}
}
