package model_test

import (
	"bytes"
	"fmt"
	"math"
	"math/rand"
	"slices"
	"strconv"
	"strings"
	"testing"

	"hectograph/api"
	"hectograph/event"
	"hectograph/model"
)

func write(off int, data string) api.Event {
	return api.Event{Kind: api.Write, Off: off, Data: []byte(data)}
}

func discard(off, n int) api.Event {
	return api.Event{Kind: api.Discard, Off: off, Len: n}
}

func zero(off, n int) api.Event {
	return api.Event{Kind: api.Zero, Off: off, Len: n}
}

func resize(n int) api.Event {
	return api.Event{Kind: api.Resize, Len: n}
}

func snap(name string) api.Event {
	return api.Event{Kind: api.Snap, Name: name}
}

func unsnap(name string) api.Event {
	return api.Event{Kind: api.Unsnap, Name: name}
}

func roll(name string) api.Event {
	return api.Event{Kind: api.Roll, Name: name}
}

func flush() api.Event {
	return api.Event{Kind: api.Flush}
}

// image is a state of those bytes, and of snapshots, of each its name and its bytes.
func image(data string, snaps ...string) api.State {
	s := api.State{Data: []byte(data)}
	for i := 0; i+1 < len(snaps); i += 2 {
		s.Snaps = append(s.Snaps, api.Old{Name: snaps[i], Data: []byte(snaps[i+1])})
	}
	return s
}

// long is a text of n bytes, none of them nought, no two side by side alike.
func long(n int) string {
	b := make([]byte, n)
	for i := range b {
		b[i] = byte(7*i%251 + 1)
	}
	return string(b)
}

// noughts is a text of so many.
func noughts(n int) string {
	return strings.Repeat("\x00", n)
}

// rows is n snapshots, of each its name, n0 and so on, and its bytes, which are short and unlike.
func rows(n int) []string {
	var l []string
	for i := range n {
		l = append(l, fmt.Sprint("n", i), long(i + 1)[i:]+"s")
	}
	return l
}

// far is numbers that are nowhere near a limit, those among them which an addition may carry over the edge.
func far() []int {
	return []int{math.MinInt, math.MinInt + 1, math.MinInt + 2, math.MinInt + api.MaxSize, math.MinInt32, -1 << 32, -api.MaxSize, -2, 1 << 16, math.MaxInt32, 1 << 32, 1<<32 + 1, 1 << 62, math.MaxInt - api.MaxSize, math.MaxInt - 2, math.MaxInt - 1, math.MaxInt}
}

// edges is numbers at all edges that the document names, just beyond them, and far off.
func edges() []int {
	return append(far(), -1, 0, 1, 2, 3, 4, 5, 6, 7, 8, 9, 63, 64, 65, 510, 511, 512, 513, 514, 599, 600, 601, 1024)
}

// right is states that are Right, the edges among them.
func right() []api.State {
	full := []string{}
	for i := range api.MaxSnaps {
		full = append(full, fmt.Sprint("full-", i), long(512))
	}
	return []api.State{
		{}, image(""), image("a"), image("abcd"), image(noughts(4)), image(long(64)), image(long(511)), image(long(512)), image(noughts(512)),
		image("", "a", ""), image("", "a", "x"), image("abcd", "a", ""), image("abcd", "a", "abcd"), image("abcd", "b", "xy", "a", "pqrstu"),
		image("abcd", rows(3)...), image("abcd", rows(7)...), image("abcd", rows(8)...), image("", rows(8)...), image(long(512), full...),
		image("abcd", "a", long(512), "b", "", "c", "abcd"), image("abcd", "abcdefghijkl", "1", "-", "2", "0", "3", "0-9-a-z", "4"),
	}
}

// crooked is states that aren't Right: too many bytes, in the image and in a snapshot; too many snapshots; names that are none; names alike.
func crooked() []api.State {
	return []api.State{
		image(long(513)), image(long(600)), image(long(1 << 16)), image(noughts(513), "a", "b"),
		image("abcd", "a", long(513)), image("abcd", "a", "x", "b", long(600)), image("", "a", long(1<<16), "b", "y"),
		image("abcd", rows(9)...), image("abcd", rows(10)...), image("", rows(100)...),
		image("abcd", "", "x"), image("abcd", "A", "x"), image("abcd", "a", "x", "~a", "y"), image("abcd", "abcdefghijklm", "x"), image("abcd", "a b", "x"),
		image("abcd", "é", "x"), image("abcd", "a\x00", "x"), image("abcd", "\xff", "x"), image("abcd", strings.Repeat("a", 300), "x"), image("abcd", "a", "x", "", "y"),
		image("abcd", "a", "x", "a", "yz"), image("abcd", "a", "", "a", ""), image("abcd", "b", "1", "a", "x", "c", "2", "a", "yz", "b", "3"), image("", append(rows(7), "n0", "x")...),
		image(long(600), append(rows(12), "n0", long(600), "", "x", "A", "y")...),
	}
}

// events is events of every kind: those that may be, at the edges of small images and of the greatest, and those that may not.
func events() []api.Event {
	l := []api.Event{flush(), {}, {Kind: 9}, {Kind: -1}, {Kind: math.MinInt}, {Kind: math.MaxInt}, {Kind: 257, Data: []byte("a")}, {Kind: api.Flush, Off: 1}, {Kind: api.Flush, Name: "a"}}
	for _, off := range []int{-1, 0, 1, 3, 4, 5, 63, 64, 510, 511, 512, 513, math.MinInt, math.MaxInt} {
		for _, n := range []int{-1, 0, 1, 2, 3, 4, 5, 64, 511, 512, 513, math.MinInt, math.MaxInt} {
			l = append(l, discard(off, n), zero(off, n))
		}
		for _, data := range []string{"", "X", "XY", "WXYZ", "VWXYZ", long(64), long(65)} {
			l = append(l, write(off, data))
		}
	}
	for _, n := range []int{-1, 0, 1, 3, 4, 5, 64, 511, 512, 513, math.MinInt, math.MaxInt} {
		l = append(l, resize(n))
	}
	for _, name := range []string{"a", "b", "c", "n0", "n1", "n2", "n6", "n7", "n8", "n9", "full-0", "full-7", "-", "abcdefghijkl", "abcdefghijklm", "", "A", "~a", "a b", "é", "a\x00", "\xff"} {
		l = append(l, snap(name), unsnap(name), roll(name))
	}
	return l
}

// plain is what s comes to behind e, by texts that are cut and put together: an answer that Apply is held against.
func plain(s api.State, e api.Event) (api.State, api.Errno) {
	if !event.Right(e) {
		return api.State{}, api.ErrArg
	}
	data, at := string(s.Data), slices.IndexFunc(s.Snaps, func(o api.Old) bool { return o.Name == e.Name })
	var snaps []string
	for i, o := range s.Snaps {
		if e.Kind != api.Unsnap || i != at {
			snaps = append(snaps, o.Name, string(o.Data))
		}
	}
	fill := string(e.Data)
	if e.Kind == api.Discard || e.Kind == api.Zero {
		fill = noughts(e.Len)
	}
	switch {
	case e.Kind <= api.Zero && e.Off+len(fill) > len(data):
		return api.State{}, api.ErrRange
	case e.Kind <= api.Zero:
		data = data[:e.Off] + fill + data[e.Off+len(fill):]
	case e.Kind == api.Resize:
		data = (data + noughts(512))[:e.Len]
	case e.Kind == api.Snap && at >= 0:
		return api.State{}, api.ErrThere
	case e.Kind == api.Snap && len(snaps) >= 16:
		return api.State{}, api.ErrFull
	case e.Kind == api.Snap:
		snaps = append(snaps, e.Name, data)
	case e.Kind != api.Flush && at < 0:
		return api.State{}, api.ErrNone
	case e.Kind == api.Roll:
		data = string(s.Snaps[at].Data)
	}
	return image(data, snaps...), api.OK
}

// words is all of s as one text, no two that are unlike the same: each list behind its length.
func words(s api.State) string {
	var b strings.Builder
	add := func(text string) {
		b.WriteString(strconv.Itoa(len(text)))
		b.WriteString(":")
		b.WriteString(text)
	}
	add(string(s.Data))
	for _, o := range s.Snaps {
		add(o.Name)
		add(string(o.Data))
	}
	return b.String()
}

// tell is s as text for who reads it, cut where it is long.
func tell(s api.State) string {
	l := fmt.Sprintf("%d bytes, %d snapshots: %.40q", len(s.Data), len(s.Snaps), s.Data)
	for _, o := range s.Snaps[:min(len(s.Snaps), 10)] {
		l += fmt.Sprintf(" %.20q=%.20q", o.Name, o.Data)
	}
	return l
}

// deed is e as text, cut where it is long.
func deed(e api.Event) string {
	return fmt.Sprintf("Kind %d, Off %d, Len %d, %d bytes %.20q, Name %.20q", e.Kind, e.Off, e.Len, len(e.Data), e.Data, e.Name)
}

// isDone fails the test, unless e may be done to s, and comes to want.
func isDone(t *testing.T, s api.State, e api.Event, want api.State) {
	t.Helper()
	was := words(s)
	if why := model.Check(s, e); why != api.OK {
		t.Errorf("P14.1: Check of %s, %s: %v", tell(s), deed(e), why)
	}
	if got, why := model.Apply(s, e); why != api.OK || words(got) != words(want) {
		t.Errorf("P14.1: Apply of %s, %s: %s, %v, not %s", tell(s), deed(e), tell(got), why, tell(want))
	}
	if got := model.Fold(s, e); words(got) != words(want) {
		t.Errorf("P14.1: Fold of %s, %s: %s, not %s", tell(s), deed(e), tell(got), tell(want))
	}
	if words(s) != was {
		t.Errorf("R2: what was handed in was changed to %s by %s", tell(s), deed(e))
	}
}

// isRefused fails the test, unless e may not be done to s, for that reason.
func isRefused(t *testing.T, s api.State, e api.Event, want api.Errno) {
	t.Helper()
	was := words(s)
	if why := model.Check(s, e); why != want {
		t.Errorf("P14.1: Check of %s, %s: %v, not %v", tell(s), deed(e), why, want)
	}
	got, why := model.Apply(s, e)
	if why != want {
		t.Errorf("P14.1: Apply of %s, %s: %v, not %v", tell(s), deed(e), why, want)
	}
	if len(got.Data) > 0 || len(got.Snaps) > 0 {
		t.Errorf("R3: Apply of %s, %s, answers %s beside a refusal", tell(s), deed(e), tell(got))
	}
	if got := model.Fold(s, e); words(got) != was {
		t.Errorf("P14.3: Fold of %s, %s: %s", tell(s), deed(e), tell(got))
	}
	if words(s) != was {
		t.Errorf("P14.3: what was handed in was changed to %s by %s", tell(s), deed(e))
	}
}

// isRead fails the test, unless Read answers just those bytes.
func isRead(t *testing.T, s api.State, name string, off, n int, want string) {
	t.Helper()
	if got, why := model.Read(s, name, off, n); why != api.OK || string(got) != want {
		t.Errorf("P14.2: Read of %s, %q, %d, %d: %q, %v, not %q", tell(s), name, off, n, got, why, want)
	}
}

// isNoRead fails the test, unless Read refuses so.
func isNoRead(t *testing.T, s api.State, name string, off, n int, want api.Errno) {
	t.Helper()
	if got, why := model.Read(s, name, off, n); why != want || len(got) > 0 {
		t.Errorf("P14.2, R3: Read of %s, %q, %d, %d: %q, %v, not %v", tell(s), name, off, n, got, why, want)
	}
}

// isRight fails the test, unless Right answers that.
func isRight(t *testing.T, s api.State, want bool) {
	t.Helper()
	if got := model.Right(s); got != want {
		t.Errorf("P14.1: Right of %s: %v", tell(s), got)
	}
}

// isSame fails the test, unless Same answers that, from both sides.
func isSame(t *testing.T, a, b api.State, want bool) {
	t.Helper()
	if model.Same(a, b) != want || model.Same(b, a) != want {
		t.Errorf("P14.2: Same of %s, and of %s, isn't %v", tell(a), tell(b), want)
	}
}

// isFold fails the test, unless Fold answers that.
func isFold(t *testing.T, s, want api.State, l ...api.Event) {
	t.Helper()
	if got := model.Fold(s, l...); words(got) != words(want) {
		t.Errorf("P14.1: Fold of %s, %d events: %s, not %s", tell(s), len(l), tell(got), tell(want))
	}
}

// P14.1: New

func TestNew(t *testing.T) {
	for n, want := range map[int]int{-1: 0, 0: 0, 1: 1, 2: 2, 64: 64, 511: 511, 512: 512, 513: 512, 514: 512, 1 << 32: 512, math.MinInt: 0, math.MaxInt: 512} {
		if got := model.New(n); words(got) != words(image(noughts(want))) {
			t.Errorf("P14.1: New(%d): %s", n, tell(got))
		}
	}
	for n := -600; n < 1200; n++ {
		got := model.New(n)
		want := max(0, min(n, 512))
		if string(got.Data) != noughts(want) || len(got.Snaps) > 0 {
			t.Errorf("P14.1: New(%d): %s", n, tell(got))
		}
		isRight(t, got, true)
	}
}

// P14.1: Right

func TestRight(t *testing.T) {
	for _, s := range right() {
		isRight(t, s, true)
	}
	for _, s := range crooked() {
		isRight(t, s, false)
	}
}

func TestRightOfEachNumberOfBytes(t *testing.T) {
	for n := range 1100 {
		isRight(t, image(long(n)), n <= 512)
		isRight(t, image("", "a", long(n)), n <= 512)
		isRight(t, image(long(512), "a", "", "b", long(n), "c", "x"), n <= 512)
	}
}

func TestRightOfEachNumberOfSnapshots(t *testing.T) {
	for n := range 40 {
		isRight(t, image("abcd", rows(n)...), n <= 8)
	}
}

func TestRightOfNames(t *testing.T) {
	for n := range 30 {
		name := strings.Repeat("q", n)
		isRight(t, image("", name, ""), n >= 1 && n <= 12)
		isRight(t, image("", "a", "", name, ""), n >= 1 && n <= 12)
	}
	for c := range 256 {
		want := strings.IndexByte("abcdefghijklmnopqrstuvwxyz0123456789-", byte(c)) >= 0
		for _, name := range []string{string([]byte{byte(c)}), string([]byte{byte(c), 'a'}), string([]byte{'a', 'a', byte(c)})} {
			isRight(t, image("", "b", "", name, "", "c", ""), want && name != "b" && name != "c")
		}
	}
}

// TestRightOfTwoNamesAlike: each two places of a full state, the bytes there alike or not.
func TestRightOfTwoNamesAlike(t *testing.T) {
	for n := 2; n <= 8; n++ {
		for i := range n {
			for k := range i {
				s := image("abcd", rows(n)...)
				s.Snaps[i].Name = s.Snaps[k].Name
				isRight(t, s, false)
				s.Snaps[i].Data = s.Snaps[k].Data
				isRight(t, s, false)
				// Bytes that are alike are no names.
				s.Snaps[i].Name = "other"
				isRight(t, s, true)
			}
		}
	}
}

// P14.1: Check and Apply

func TestExamples(t *testing.T) {
	// The run.
	isDone(t, model.New(2), write(1, "a"), image("\x00a"))
	isRefused(t, model.New(2), write(1, "ab"), api.ErrRange)
	isNoRead(t, model.New(2), "x", 0, 0, api.ErrNone)
}

func TestWrite(t *testing.T) {
	s := image("abcd", "s", "abcd")
	isDone(t, s, write(0, "X"), image("Xbcd", "s", "abcd"))
	isDone(t, s, write(1, "XY"), image("aXYd", "s", "abcd"))
	isDone(t, s, write(3, "X"), image("abcX", "s", "abcd"))
	isDone(t, s, write(0, "WXYZ"), image("WXYZ", "s", "abcd"))
	isDone(t, s, write(2, "\x00\xff"), image("ab\x00\xff", "s", "abcd"))
	isDone(t, image(long(512)), write(448, long(64)), image(long(512)[:448]+long(64)))
	isDone(t, image("a"), write(0, "b"), image("b"))
	// One byte beyond the end.
	isRefused(t, s, write(4, "X"), api.ErrRange)
	isRefused(t, s, write(3, "XY"), api.ErrRange)
	isRefused(t, s, write(0, "VWXYZ"), api.ErrRange)
	isRefused(t, s, write(5, "X"), api.ErrRange)
	isRefused(t, s, write(511, "X"), api.ErrRange)
	isRefused(t, image(long(511)), write(511, "X"), api.ErrRange)
	isRefused(t, image(long(511)), write(448, long(64)), api.ErrRange)
	isRefused(t, image(""), write(0, "X"), api.ErrRange)
	isRefused(t, api.State{}, write(0, "X"), api.ErrRange)
	isRefused(t, image("", "s", "abcd"), write(0, "X"), api.ErrRange)
	// What may not be, ahead of where it goes.
	isRefused(t, s, write(-1, "X"), api.ErrArg)
	isRefused(t, s, write(0, ""), api.ErrArg)
	isRefused(t, s, write(9, ""), api.ErrArg)
	isRefused(t, s, write(512, "X"), api.ErrArg)
	isRefused(t, s, write(0, long(65)), api.ErrArg)
	isRefused(t, image(long(512)), write(0, long(65)), api.ErrArg)
	isRefused(t, s, api.Event{Kind: api.Write, Data: []byte("X"), Len: 1}, api.ErrArg)
	isRefused(t, s, api.Event{Kind: api.Write, Data: []byte("X"), Name: "s"}, api.ErrArg)
}

func TestDiscardAndZero(t *testing.T) {
	for _, lay := range []func(off, n int) api.Event{discard, zero} {
		s := image("abcd", "s", "abcd")
		isDone(t, s, lay(0, 1), image("\x00bcd", "s", "abcd"))
		isDone(t, s, lay(1, 2), image("a\x00\x00d", "s", "abcd"))
		isDone(t, s, lay(3, 1), image("abc\x00", "s", "abcd"))
		isDone(t, s, lay(0, 4), image("\x00\x00\x00\x00", "s", "abcd"))
		isDone(t, s, lay(2, 2), image("ab\x00\x00", "s", "abcd"))
		isDone(t, image(long(512)), lay(0, 512), image(noughts(512)))
		isDone(t, image(long(512)), lay(511, 1), image(long(511)+"\x00"))
		isDone(t, image(noughts(3)), lay(1, 1), image(noughts(3)))
		// One byte beyond the end.
		isRefused(t, s, lay(4, 1), api.ErrRange)
		isRefused(t, s, lay(3, 2), api.ErrRange)
		isRefused(t, s, lay(0, 5), api.ErrRange)
		isRefused(t, s, lay(0, 512), api.ErrRange)
		isRefused(t, s, lay(511, 1), api.ErrRange)
		isRefused(t, image(long(511)), lay(0, 512), api.ErrRange)
		isRefused(t, image(long(511)), lay(511, 1), api.ErrRange)
		isRefused(t, image(""), lay(0, 1), api.ErrRange)
		isRefused(t, api.State{}, lay(0, 1), api.ErrRange)
		isRefused(t, image("", "s", "abcd"), lay(0, 4), api.ErrRange)
		// What may not be, ahead of where it goes.
		isRefused(t, s, lay(-1, 1), api.ErrArg)
		isRefused(t, s, lay(-1, 9), api.ErrArg)
		isRefused(t, s, lay(0, 0), api.ErrArg)
		isRefused(t, s, lay(4, 0), api.ErrArg)
		isRefused(t, s, lay(9, 0), api.ErrArg)
		isRefused(t, s, lay(4, -1), api.ErrArg)
		isRefused(t, s, lay(0, 513), api.ErrArg)
		isRefused(t, s, lay(1, 512), api.ErrArg)
		isRefused(t, s, lay(512, 1), api.ErrArg)
		odd := lay(0, 1)
		odd.Data = []byte("X")
		isRefused(t, s, odd, api.ErrArg)
	}
}

// TestWhereBytesMayGo: each place and number of bytes in images of a few bytes.
func TestWhereBytesMayGo(t *testing.T) {
	for size := range 7 {
		s := image(long(size), "s", long(9))
		for off := -1; off < 9; off++ {
			for n := 0; n < 9; n++ {
				for _, e := range []api.Event{write(off, strings.Repeat("~", n)), discard(off, n), zero(off, n)} {
					switch fill := strings.Repeat("~", n); {
					case off < 0 || n < 1:
						isRefused(t, s, e, api.ErrArg)
					case off+n > size:
						isRefused(t, s, e, api.ErrRange)
					default:
						if e.Kind != api.Write {
							fill = noughts(n)
						}
						isDone(t, s, e, image(long(size)[:off]+fill+long(size)[off+n:], "s", long(9)))
					}
				}
			}
		}
	}
}

func TestResize(t *testing.T) {
	s := image("abcd", "s", "abcd")
	isDone(t, s, resize(0), image("", "s", "abcd"))
	isDone(t, s, resize(1), image("a", "s", "abcd"))
	isDone(t, s, resize(3), image("abc", "s", "abcd"))
	isDone(t, s, resize(4), image("abcd", "s", "abcd"))
	isDone(t, s, resize(5), image("abcd\x00", "s", "abcd"))
	isDone(t, s, resize(9), image("abcd\x00\x00\x00\x00\x00", "s", "abcd"))
	isDone(t, s, resize(512), image("abcd"+noughts(508), "s", "abcd"))
	isDone(t, image(""), resize(0), image(""))
	isDone(t, api.State{}, resize(3), image("\x00\x00\x00"))
	isDone(t, api.State{}, resize(512), image(noughts(512)))
	isDone(t, image(long(512)), resize(512), image(long(512)))
	isDone(t, image(long(512)), resize(511), image(long(511)))
	isDone(t, image(long(512)), resize(0), image(""))
	isRefused(t, s, resize(-1), api.ErrArg)
	isRefused(t, s, resize(513), api.ErrArg)
	isRefused(t, s, api.Event{Kind: api.Resize, Len: 2, Off: 1}, api.ErrArg)
	// What was cut off doesn't come back.
	isFold(t, s, image("ab\x00\x00\x00", "s", "abcd"), resize(2), resize(5))
	isFold(t, s, image("\x00\x00\x00\x00", "s", "abcd"), resize(0), resize(4))
}

func TestSnap(t *testing.T) {
	isDone(t, image("ab"), snap("a"), image("ab", "a", "ab"))
	isDone(t, image(""), snap("a"), image("", "a", ""))
	isDone(t, api.State{}, snap("abcdefghijkl"), image("", "abcdefghijkl", ""))
	isDone(t, image(long(512)), snap("-"), image(long(512), "-", long(512)))
	// At the end, whatever it is called.
	isDone(t, image("ab", "m", "x", "z", "yz"), snap("a"), image("ab", "m", "x", "z", "yz", "a", "ab"))
	isDone(t, image("ab", "aa", "x"), snap("a"), image("ab", "aa", "x", "a", "ab"))
	// One of that name, the first, one within and the last.
	l := rows(3)
	isRefused(t, image("ab", l...), snap("n0"), api.ErrThere)
	isRefused(t, image("ab", l...), snap("n1"), api.ErrThere)
	isRefused(t, image("ab", l...), snap("n2"), api.ErrThere)
	// The eighth and one more, and both at once.
	isDone(t, image("ab", rows(7)...), snap("z"), image("ab", append(rows(7), "z", "ab")...))
	isRefused(t, image("ab", rows(8)...), snap("z"), api.ErrFull)
	isRefused(t, image("ab", rows(8)...), snap("n8"), api.ErrFull)
	for i := range 8 {
		isRefused(t, image("ab", rows(8)...), snap(fmt.Sprint("n", i)), api.ErrThere)
	}
	isRefused(t, image("ab", rows(7)...), snap("n6"), api.ErrThere)
	// What is no name, ahead of both.
	for _, name := range []string{"", "A", "~a", "abcdefghijklm", "a b", "é", "\xff"} {
		isRefused(t, image("ab"), snap(name), api.ErrArg)
		isRefused(t, image("ab", rows(8)...), snap(name), api.ErrArg)
		isRefused(t, image("ab", name, "x"), snap(name), api.ErrArg)
	}
	isRefused(t, image("ab"), api.Event{Kind: api.Snap, Name: "a", Len: 1}, api.ErrArg)
}

// TestSnapsAreOfTheirTime: what comes behind a Snap isn't in it.
func TestSnapsAreOfTheirTime(t *testing.T) {
	isFold(t, image("abcd"), image("Xb\x00", "s", "abcd", "t", "Xbcd", "u", "Xb\x00\x00"),
		snap("s"), write(0, "X"), snap("t"), discard(2, 2), snap("u"), resize(3))
	isFold(t, image("ab"), image("ab", "s", "ab", "t", "ab"), snap("s"), snap("t"))
	isFold(t, image("ab"), image("XY", "s", "ab"), snap("s"), roll("s"), write(0, "XY"))
	isFold(t, image("ab"), image("ab", "s", "ab", "t", "XY"), snap("s"), write(0, "XY"), snap("t"), roll("s"))
}

func TestUnsnap(t *testing.T) {
	s := image("ab", "p", "1", "q", "22", "r", "333")
	isDone(t, s, unsnap("p"), image("ab", "q", "22", "r", "333"))
	isDone(t, s, unsnap("q"), image("ab", "p", "1", "r", "333"))
	isDone(t, s, unsnap("r"), image("ab", "p", "1", "q", "22"))
	isDone(t, image("ab", "p", "1"), unsnap("p"), image("ab"))
	for i := range 8 {
		l := rows(8)
		isDone(t, image("ab", l...), unsnap(fmt.Sprint("n", i)), image("ab", slices.Delete(rows(8), 2*i, 2*i+2)...))
	}
	isRefused(t, s, unsnap("o"), api.ErrNone)
	isRefused(t, s, unsnap("pp"), api.ErrNone)
	isRefused(t, image("ab"), unsnap("p"), api.ErrNone)
	isRefused(t, api.State{}, unsnap("p"), api.ErrNone)
	isRefused(t, image("ab", rows(8)...), unsnap("n8"), api.ErrNone)
	// A name again, behind its Unsnap: at the end, of new bytes.
	isFold(t, s, image("ab", "q", "22", "r", "333", "p", "ab"), unsnap("p"), snap("p"))
	isFold(t, image("ab", rows(8)...), image("ab", append(rows(8)[2:], "z", "ab")...), snap("z"), unsnap("n0"), snap("z"), snap("n0"))
}

func TestRoll(t *testing.T) {
	s := image("ab", "p", "1", "q", "22", "r", "333", "none", "")
	isDone(t, s, roll("p"), image("1", "p", "1", "q", "22", "r", "333", "none", ""))
	isDone(t, s, roll("q"), image("22", "p", "1", "q", "22", "r", "333", "none", ""))
	isDone(t, s, roll("r"), image("333", "p", "1", "q", "22", "r", "333", "none", ""))
	isDone(t, s, roll("none"), image("", "p", "1", "q", "22", "r", "333", "none", ""))
	isDone(t, image("", "p", long(512)), roll("p"), image(long(512), "p", long(512)))
	isDone(t, image(long(512), "p", "ab"), roll("p"), image("ab", "p", "ab"))
	isRefused(t, s, roll("o"), api.ErrNone)
	isRefused(t, s, roll("pp"), api.ErrNone)
	isRefused(t, image("ab"), roll("p"), api.ErrNone)
	isRefused(t, api.State{}, roll("p"), api.ErrNone)
	for _, name := range []string{"", "A", "~a", "abcdefghijklm", "a b", "é"} {
		isRefused(t, s, roll(name), api.ErrArg)
		isRefused(t, s, unsnap(name), api.ErrArg)
		isRefused(t, image("ab", name, "x"), roll(name), api.ErrArg)
		isRefused(t, image("ab", name, "x"), unsnap(name), api.ErrArg)
	}
}

func TestFlush(t *testing.T) {
	for _, s := range append(right(), crooked()...) {
		isDone(t, s, flush(), s)
		isRefused(t, s, api.Event{Kind: api.Flush, Len: 1}, api.ErrArg)
		isRefused(t, s, api.Event{Kind: api.Flush, Name: "a"}, api.ErrArg)
	}
}

// TestEachEventOnEachState: against the plain reckoning, one by one.
func TestEachEventOnEachState(t *testing.T) {
	for _, s := range append(right(), crooked()...) {
		for _, e := range events() {
			want, why := plain(s, e)
			if why != api.OK {
				isRefused(t, s, e, why)
				continue
			}
			isDone(t, s, e, want)
			if got, _ := model.Apply(s, e); model.Right(s) {
				isRight(t, got, true)
			}
		}
	}
}

// TestStatesThatAreNotRight (of any s): too many bytes, too many snapshots, names that are none or alike.
func TestStatesThatAreNotRight(t *testing.T) {
	big := image(long(600), "p", long(700))
	isDone(t, big, write(511, "X"), image(long(511)+"X"+long(600)[512:], "p", long(700)))
	isDone(t, big, zero(0, 512), image(noughts(512)+long(600)[512:], "p", long(700)))
	isDone(t, big, resize(512), image(long(512), "p", long(700)))
	isDone(t, big, snap("q"), image(long(600), "p", long(700), "q", long(600)))
	isDone(t, big, roll("p"), image(long(700), "p", long(700)))
	isDone(t, big, unsnap("p"), image(long(600)))
	isRefused(t, big, write(512, "X"), api.ErrArg)
	isRefused(t, big, discard(1, 512), api.ErrArg)
	isRefused(t, big, resize(600), api.ErrArg)

	many := image("ab", rows(9)...)
	isRefused(t, many, snap("z"), api.ErrFull)
	isRefused(t, many, snap("n8"), api.ErrThere)
	isDone(t, many, unsnap("n8"), image("ab", rows(8)...))
	isDone(t, many, roll("n8"), image(rows(9)[17], rows(9)...))
	isDone(t, many, write(0, "X"), image("Xb", rows(9)...))
	isRefused(t, image("ab", rows(300)...), snap("z"), api.ErrFull)
	isRefused(t, image("ab", rows(300)...), snap("n299"), api.ErrThere)
	isDone(t, image("ab", rows(300)...), unsnap("n299"), image("ab", rows(299)...))
	isFold(t, image("ab", rows(9)...), image("ab", append(rows(9)[4:], "y", "ab")...), snap("x"), unsnap("n0"), snap("x"), unsnap("n1"), snap("y"), snap("x"))

	// Of two of one name the first one.
	twice := image("ab", "b", "1", "a", "x", "c", "2", "a", "yz", "b", "3")
	isRefused(t, twice, snap("a"), api.ErrThere)
	isDone(t, twice, roll("a"), image("x", "b", "1", "a", "x", "c", "2", "a", "yz", "b", "3"))
	isDone(t, twice, unsnap("a"), image("ab", "b", "1", "c", "2", "a", "yz", "b", "3"))
	isDone(t, twice, unsnap("b"), image("ab", "a", "x", "c", "2", "a", "yz", "b", "3"))
	isFold(t, twice, image("yz", "b", "1", "c", "2", "a", "yz", "b", "3"), unsnap("a"), roll("a"))
	isFold(t, twice, image("ab", "b", "1", "c", "2", "b", "3"), unsnap("a"), unsnap("a"), unsnap("a"))
	isRead(t, twice, "a", 0, 1, "x")
	isNoRead(t, twice, "a", 0, 2, api.ErrRange)

	odd := image("ab", "", "x", "A", "yz", "a", "1")
	isDone(t, odd, unsnap("a"), image("ab", "", "x", "A", "yz"))
	isDone(t, odd, snap("b"), image("ab", "", "x", "A", "yz", "a", "1", "b", "ab"))
	isRefused(t, odd, unsnap("A"), api.ErrArg)
	isRefused(t, odd, roll(""), api.ErrArg)
}

// P14.1: Fold

func TestFold(t *testing.T) {
	isFold(t, image("ab"), image("ab"))
	isFold(t, image("ab", "s", "x"), image("ab", "s", "x"), nil...)
	isFold(t, image("ab", "s", "x"), image("ab", "s", "x"), []api.Event{}...)
	isFold(t, image("abcd"), image("XYcd"), write(0, "X"), write(1, "Y"))
	isFold(t, image("abcd"), image("Xbcd"), write(0, "Y"), write(0, "X"))
	// What is refused is passed over, at the beginning, within and at the end.
	isFold(t, image("abcd"), image("aXcd"), write(4, "X"), write(1, "X"), api.Event{}, roll("s"), unsnap("s"), resize(-1), zero(0, 5))
	isFold(t, image("abcd"), image("abcd"), write(4, "X"), api.Event{}, roll("s"))
	// One event may let another one be, or hinder it.
	isFold(t, image("ab"), image("ab\x00X"), write(3, "X"), resize(4), write(3, "X"))
	isFold(t, image("abcd"), image("ab"), resize(2), write(3, "X"))
	isFold(t, image("ab"), image("ab", "s", "ab"), roll("s"), snap("s"), write(0, "X"), roll("s"), snap("s"))
}

// P14.2: Read

func TestRead(t *testing.T) {
	s := image("abcd", "p", "1", "q", "", "r", "uvwxyz")
	isRead(t, s, "", 0, 4, "abcd")
	isRead(t, s, "", 0, 0, "")
	isRead(t, s, "", 1, 2, "bc")
	isRead(t, s, "", 3, 1, "d")
	isRead(t, s, "", 4, 0, "")
	isRead(t, s, "p", 0, 1, "1")
	isRead(t, s, "p", 1, 0, "")
	isRead(t, s, "q", 0, 0, "")
	isRead(t, s, "r", 0, 6, "uvwxyz")
	isRead(t, s, "r", 4, 2, "yz")
	isRead(t, s, "r", 6, 0, "")
	isRead(t, image(""), "", 0, 0, "")
	isRead(t, api.State{}, "", 0, 0, "")
	isRead(t, image(long(512)), "", 0, 512, long(512))
	// Beyond the end.
	isNoRead(t, s, "", 0, 5, api.ErrRange)
	isNoRead(t, s, "", 4, 1, api.ErrRange)
	isNoRead(t, s, "", 5, 0, api.ErrRange)
	isNoRead(t, s, "", -1, 0, api.ErrRange)
	isNoRead(t, s, "", -1, 1, api.ErrRange)
	isNoRead(t, s, "", -1, 9, api.ErrRange)
	isNoRead(t, s, "p", 0, 2, api.ErrRange)
	isNoRead(t, s, "p", 2, 0, api.ErrRange)
	isNoRead(t, s, "q", 0, 1, api.ErrRange)
	isNoRead(t, s, "q", 1, 0, api.ErrRange)
	isNoRead(t, s, "r", 6, 1, api.ErrRange)
	isNoRead(t, s, "r", -1, 7, api.ErrRange)
	isNoRead(t, api.State{}, "", 0, 1, api.ErrRange)
	// An n below 0, ahead of where it goes.
	isNoRead(t, s, "", 0, -1, api.ErrArg)
	isNoRead(t, s, "", 4, -1, api.ErrArg)
	isNoRead(t, s, "", 5, -1, api.ErrArg)
	isNoRead(t, s, "", -1, -1, api.ErrArg)
	isNoRead(t, s, "r", 3, -2, api.ErrArg)
	isNoRead(t, s, "r", -1, -2, api.ErrArg)
	// A name that isn't there, ahead of all.
	for _, name := range []string{"x", "pp", "P", "p\x00", "~p", "é", "\xff", strings.Repeat("p", 300)} {
		isNoRead(t, s, name, 0, 0, api.ErrNone)
		isNoRead(t, s, name, 0, 1, api.ErrNone)
		isNoRead(t, s, name, 0, -1, api.ErrNone)
		isNoRead(t, s, name, -1, -1, api.ErrNone)
		isNoRead(t, s, name, 0, 99, api.ErrNone)
		isNoRead(t, api.State{}, name, 0, 0, api.ErrNone)
	}
	// Of any s: a name that is none, but is there; an empty one is the image; and as far as it goes.
	odd := image("ab", "", "x", "A", "yz", "a", long(600))
	isRead(t, odd, "", 0, 2, "ab")
	isRead(t, odd, "A", 0, 2, "yz")
	isRead(t, odd, "a", 512, 88, long(600)[512:])
	isNoRead(t, odd, "a", 512, 89, api.ErrRange)
	isRead(t, image(long(600)), "", 0, 600, long(600))
	isRead(t, image("ab", rows(20)...), "n19", 1, 1, "s")
}

// TestReadOfEachPlace: each place and number of bytes, near and far, of the image and of each snapshot.
func TestReadOfEachPlace(t *testing.T) {
	for _, s := range []api.State{{}, image("a"), image("abcd", rows(3)...), image(long(512), "a", long(600), "b", "")} {
		texts := map[string]string{"": string(s.Data)}
		for _, o := range s.Snaps {
			texts[o.Name] = string(o.Data)
		}
		for name, text := range texts {
			for _, off := range append(edges(), len(text)-1, len(text), len(text)+1) {
				for _, n := range append(edges(), len(text)-off, len(text)-off+1) {
					switch {
					case n < 0:
						isNoRead(t, s, name, off, n, api.ErrArg)
					case off < 0 || off > len(text) || n > len(text)-off:
						isNoRead(t, s, name, off, n, api.ErrRange)
					default:
						isRead(t, s, name, off, n, text[off:off+n])
					}
					isNoRead(t, s, "no-such", off, n, api.ErrNone)
				}
			}
		}
	}
}

// P14.2: Same

// copied is s in other memory, the nil lists of it empty ones.
func copied(s api.State) api.State {
	out := api.State{Data: append([]byte{}, s.Data...), Snaps: []api.Old{}}
	for _, o := range s.Snaps {
		out.Snaps = append(out.Snaps, api.Old{Name: strings.Clone(o.Name), Data: append([]byte{}, o.Data...)})
	}
	return out
}

func TestSame(t *testing.T) {
	all := append(right(), crooked()...)
	for _, a := range all {
		isSame(t, a, a, true)
		isSame(t, a, copied(a), true)
		for _, b := range all {
			isSame(t, a, b, words(a) == words(b))
		}
	}
	s := image("ab", "p", "1", "q", "22")
	isSame(t, s, image("ab", "q", "22", "p", "1"), false)
	isSame(t, s, image("ab", "p", "22", "q", "1"), false)
	isSame(t, s, image("ab", "p", "1"), false)
	isSame(t, s, image("ab", "q", "22"), false)
	isSame(t, s, image("ab"), false)
	isSame(t, s, image("ab", "p", "1", "q", "22", "r", ""), false)
	isSame(t, s, image("a", "p", "1", "q", "22"), false)
	isSame(t, s, image("ab\x00", "p", "1", "q", "22"), false)
	isSame(t, s, image("", "p", "1", "q", "22"), false)
	isSame(t, s, image("ab", "p", "1", "q", "2"), false)
	isSame(t, s, image("ab", "p", "1", "q", "22\x00"), false)
	isSame(t, s, image("ab", "p", "1", "q", ""), false)
	isSame(t, s, image("ab", "p", "1", "Q", "22"), false)
	isSame(t, image("ab", "p1", ""), image("ab", "p", "1"), false)
	isSame(t, image("ab", "p", "1", "p", "2"), image("ab", "p", "2", "p", "1"), false)
	isSame(t, image("ab", "p", "1", "p", "1"), image("ab", "p", "1"), false)
}

func TestSameButForOneThing(t *testing.T) {
	for _, s := range append(right(), crooked()...) {
		if len(s.Data) > 600 || len(s.Snaps) > 12 {
			continue
		}
		for i := range s.Data {
			odd := copied(s)
			odd.Data[i] ^= 1 << (i % 8)
			isSame(t, s, odd, false)
		}
		odd := copied(s)
		odd.Data = append(odd.Data, 0)
		isSame(t, s, odd, false)
		odd = copied(s)
		odd.Snaps = append(odd.Snaps, api.Old{})
		isSame(t, s, odd, false)
		for i, o := range s.Snaps {
			odd = copied(s)
			odd.Snaps[i].Name += "a"
			isSame(t, s, odd, false)
			odd = copied(s)
			odd.Snaps[i].Data = append(odd.Snaps[i].Data, 0)
			isSame(t, s, odd, false)
			odd = copied(s)
			odd.Snaps = slices.Delete(odd.Snaps, i, i+1)
			isSame(t, s, odd, false)
			for k := range min(len(o.Data), 64) {
				odd = copied(s)
				odd.Snaps[i].Data[len(o.Data)-1-k] ^= 128
				isSame(t, s, odd, false)
			}
		}
	}
}

// P14.3: what follows

// drawn is an event of any kind, mostly one that may be done to a small image.
func drawn(r *rand.Rand) api.Event {
	off, n, name := r.Intn(12)-1, r.Intn(6), []string{"a", "b", "c", "d", "e", "f", "g", "h", "i", "j", "A"}[r.Intn(11)]
	switch r.Intn(12) {
	case 0, 1:
		return discard(off, n)
	case 2:
		return zero(off, n)
	case 3:
		return resize(r.Intn(14) - 1)
	case 4, 5, 6:
		return snap(name)
	case 7:
		return unsnap(name)
	case 8:
		return roll(name)
	case 9:
		return flush()
	case 10:
		return api.Event{Kind: r.Intn(11) - 1, Off: off, Len: n, Name: name[:r.Intn(2)]}
	}
	b := make([]byte, n)
	for i := range b {
		b[i] = byte('0' + r.Intn(75))
	}
	return write(off, string(b))
}

// series is n events.
func series(r *rand.Rand, n int) []api.Event {
	l := make([]api.Event, n)
	for i := range l {
		l[i] = drawn(r)
	}
	return l
}

// TestEventsInARow: each state on the way against the plain reckoning, and what Read answers of it.
func TestEventsInARow(t *testing.T) {
	r := rand.New(rand.NewSource(41))
	refused := map[api.Errno]int{}
	for range 150 {
		s := model.New(r.Intn(12))
		begin, l := s, series(r, 120)
		for i, e := range l {
			want, why := plain(s, e)
			refused[why]++
			got, why2 := model.Apply(s, e)
			if check := model.Check(s, e); why2 != why || check != why || words(got) != words(want) {
				t.Fatalf("P14.1: %s, %s: %s, %v, %v, not %s, %v", tell(s), deed(e), tell(got), why2, check, tell(want), why)
			}
			if why == api.OK {
				s = got
			}
			isRight(t, s, true)
			isFold(t, begin, s, l[:i+1]...)
			isRead(t, s, "", 0, len(s.Data), string(s.Data))
			for _, o := range s.Snaps {
				isRead(t, s, o.Name, 0, len(o.Data), string(o.Data))
			}
		}
	}
	for _, why := range []api.Errno{api.OK, api.ErrArg, api.ErrRange, api.ErrThere, api.ErrFull, api.ErrNone} {
		if refused[why] < 100 {
			t.Errorf("the test's own rows: %v came but %d times", why, refused[why])
		}
	}
}

func TestFoldOfTwoLists(t *testing.T) {
	r := rand.New(rand.NewSource(42))
	starts := append(right(), crooked()...)
	for range 3000 {
		s := starts[r.Intn(len(starts))]
		a, b := series(r, r.Intn(20)), series(r, r.Intn(20))
		all := model.Fold(s, slices.Concat(a, b)...)
		if got := model.Fold(model.Fold(s, a...), b...); !model.Same(got, all) || words(got) != words(all) {
			t.Fatalf("P14.3: Fold of %s, %d and %d events: %s, not %s", tell(s), len(a), len(b), tell(got), tell(all))
		}
	}
}

// TestWhatIsRefusedChangesNothing: without what is refused a Fold is the same, and that comes to the same whenever it is asked.
func TestWhatIsRefusedChangesNothing(t *testing.T) {
	r := rand.New(rand.NewSource(43))
	starts := append(right(), crooked()...)
	for range 2000 {
		begin := starts[r.Intn(len(starts))]
		l := series(r, r.Intn(30))
		s := begin
		var done []api.Event
		for _, e := range l {
			if model.Check(s, e) != api.OK {
				isRefused(t, s, e, model.Check(s, e))
				continue
			}
			done = append(done, e)
			s, _ = model.Apply(s, e)
		}
		isFold(t, begin, s, l...)
		isFold(t, begin, s, done...)
	}
}

// The rules that hold everywhere

// calls calls each function with those.
func calls(s, other api.State, e api.Event, name string, off, n int) {
	model.New(n)
	model.Check(s, e)
	model.Apply(s, e)
	model.Fold(s, e, e)
	model.Read(s, name, off, n)
	model.Right(s)
	model.Same(s, other)
}

func TestNothingPanics(t *testing.T) {
	states := append(right(), crooked()...)
	for i, s := range states {
		for k, e := range events() {
			calls(s, states[(i+k)%len(states)], e, e.Name, e.Off, e.Len)
		}
		for _, name := range []string{"", "a", "A", "n0", "\xff", "é", strings.Repeat("a", 1<<10)} {
			for _, n := range edges() {
				calls(s, states[0], api.Event{Kind: n, Off: n, Len: n, Name: name}, name, n, n)
				calls(s, states[1], discard(n, n), name, n, 1)
				calls(s, states[2], zero(0, n), name, 0, n)
				calls(s, states[3], write(n, name), name, 1, n)
			}
		}
	}
	big := image(long(1<<20), rows(1000)...)
	calls(big, big, write(511, "X"), "n999", 0, 2)
	calls(big, image(long(1<<20)), api.Event{Kind: api.Write, Data: make([]byte, 1<<20)}, strings.Repeat("n", 1<<20), 1<<20, 0)
}

func TestTheGreatestAndTheLeastInEveryPlace(t *testing.T) {
	s := image("abcd", "p", "1")
	for _, n := range []int{math.MinInt, math.MaxInt} {
		isRight(t, model.New(n), true)
		isRefused(t, s, api.Event{Kind: n}, api.ErrArg)
		isRefused(t, s, api.Event{Kind: n, Off: n, Len: n, Data: []byte("a"), Name: "p"}, api.ErrArg)
		isRefused(t, s, write(n, "a"), api.ErrArg)
		isRefused(t, s, write(n, ""), api.ErrArg)
		isRefused(t, s, api.Event{Kind: api.Write, Len: n, Data: []byte("a")}, api.ErrArg)
		for _, kind := range []int{api.Discard, api.Zero} {
			isRefused(t, s, api.Event{Kind: kind, Off: n, Len: 1}, api.ErrArg)
			isRefused(t, s, api.Event{Kind: kind, Off: 1, Len: n}, api.ErrArg)
			isRefused(t, s, api.Event{Kind: kind, Off: n, Len: n}, api.ErrArg)
			isRefused(t, s, api.Event{Kind: kind, Off: n, Len: -1 - n}, api.ErrArg)
		}
		isRefused(t, s, resize(n), api.ErrArg)
		isRefused(t, s, api.Event{Kind: api.Resize, Off: n, Len: 1}, api.ErrArg)
		for _, kind := range []int{api.Snap, api.Unsnap, api.Roll} {
			isRefused(t, s, api.Event{Kind: kind, Name: "p", Off: n}, api.ErrArg)
			isRefused(t, s, api.Event{Kind: kind, Name: "p", Len: n}, api.ErrArg)
		}
		isRefused(t, s, api.Event{Kind: api.Flush, Off: n}, api.ErrArg)
		isRefused(t, s, api.Event{Kind: api.Flush, Len: n}, api.ErrArg)
		for _, name := range []string{"", "p"} {
			isNoRead(t, s, name, n, 0, api.ErrRange)
			isNoRead(t, s, name, n, math.MaxInt, api.ErrRange)
			isNoRead(t, s, name, n, math.MinInt, api.ErrArg)
		}
		isNoRead(t, s, "q", n, n, api.ErrNone)
	}
	isNoRead(t, s, "", 0, math.MaxInt, api.ErrRange)
	isNoRead(t, s, "", 4, math.MaxInt, api.ErrRange)
	isNoRead(t, s, "p", 1, math.MaxInt, api.ErrRange)
	isNoRead(t, s, "", 0, math.MinInt, api.ErrArg)
}

func TestLongRows(t *testing.T) {
	var l []api.Event
	for i := range 20000 {
		l = append(l, write(i%4, string([]byte{byte(i), byte(i >> 8)})), snap("a"), roll("b"), snap("b"), unsnap("b"))
	}
	// Of the last four Writes the one at 3 is refused, of the others the last one's both bytes are left.
	isFold(t, image("abcd"), image("\x1c\x1d\x1e\x4e", "a", "\x00\x00cd"), l...)
	isDone(t, image("ab", rows(2000)...), unsnap("n1999"), image("ab", rows(1999)...))
	isRead(t, image("ab", rows(2000)...), "n1999", 0, 2, rows(2000)[3999])
}

// roomy is s in memory of its own, with spare room behind each of its lists in which other things lie.
func roomy(s api.State) api.State {
	spare := func(b []byte) []byte {
		return append(append([]byte{}, b...), "spare room, of 600 bytes at least "+long(600)...)[:len(b)]
	}
	out := api.State{Data: spare(s.Data)}
	for _, o := range s.Snaps {
		out.Snaps = append(out.Snaps, api.Old{Name: o.Name, Data: spare(o.Data)})
	}
	out.Snaps = append(out.Snaps, api.Old{Name: "spare", Data: []byte("spare")}, api.Old{Name: "a", Data: []byte("spare")}, api.Old{})[:len(s.Snaps)]
	return out
}

// whole is s with its spare room, as text.
func whole(s api.State) string {
	all := api.State{Data: s.Data[:cap(s.Data)]}
	for _, o := range s.Snaps[:cap(s.Snaps)] {
		all.Snaps = append(all.Snaps, api.Old{Name: o.Name, Data: o.Data[:cap(o.Data)]})
	}
	return words(all)
}

// spoilBytes writes over all of b, its spare room too.
func spoilBytes(b []byte) {
	for i := range b[:cap(b)] {
		b[:cap(b)][i] ^= 0x55
	}
}

// spoil writes over all lists of s, their spare room too.
func spoil(s api.State) {
	spoilBytes(s.Data)
	for i, o := range s.Snaps[:cap(s.Snaps)] {
		spoilBytes(o.Data)
		s.Snaps[:cap(s.Snaps)][i] = api.Old{Name: "spoilt", Data: []byte("spoilt")}
	}
}

// few is events of every kind that are done to most states, and some that are refused.
func few() []api.Event {
	return []api.Event{write(0, "XY"), discard(1, 2), zero(0, 1), resize(0), resize(2), resize(4), resize(9), resize(512), snap("new"), unsnap("a"), unsnap("n0"), unsnap("n2"), roll("a"), roll("n1"), flush(), {}, write(511, "X"), snap("a"), roll("no-such")}
}

func TestNothingHandedInIsChanged(t *testing.T) {
	for _, s := range append(right(), crooked()...) {
		a, b := roomy(s), roomy(image("abcd", rows(3)...))
		was, other := whole(a), whole(b)
		l := few()
		for i := range l {
			room := append(append([]byte{}, l[i].Data...), "spare"...)
			l[i].Data = room[:len(l[i].Data)]
			full := string(room)
			model.Check(a, l[i])
			model.Apply(a, l[i])
			model.Fold(a, l[i:]...)
			if string(room) != full {
				t.Fatalf("R2: the Data of %s or its room was changed", deed(l[i]))
			}
		}
		events := fmt.Sprint(l)
		model.Fold(a, l[:9]...)
		if fmt.Sprint(l) != events {
			t.Fatalf("R2: Fold of %s changed its events", tell(s))
		}
		for _, name := range []string{"", "a", "n0", "n1", "no-such"} {
			for _, n := range []int{-1, 0, 1, 2, 600} {
				model.Read(a, name, 0, n)
				model.Read(a, name, 1, n)
			}
		}
		model.Right(a)
		model.Same(a, b)
		model.Same(b, a)
		if whole(a) != was || whole(b) != other {
			t.Fatalf("R2: %s or its room was changed", tell(s))
		}
	}
}

// TestAnswersAreNewMemory: also where nothing had to be changed: a Flush, a Resize to as much, a Fold of nothing or of what is refused.
func TestAnswersAreNewMemory(t *testing.T) {
	for _, s := range append(right(), crooked()...) {
		deeds := map[string]func(api.State) api.State{"Fold of nothing": func(s api.State) api.State { return model.Fold(s) }}
		for _, e := range append(few(), resize(min(len(s.Data), 512))) {
			deeds["Apply "+deed(e)] = func(s api.State) api.State { out, _ := model.Apply(s, e); return out }
			deeds["Fold "+deed(e)] = func(s api.State) api.State { return model.Fold(s, e) }
		}
		for name, do := range deeds {
			a := roomy(s)
			was := whole(a)
			one, two := do(a), do(a)
			want := words(two)
			spoil(one)
			if whole(a) != was || words(two) != want {
				t.Fatalf("R2: the answer of %s of %s shares memory", name, tell(s))
			}
			spoil(a)
			if words(two) != want {
				t.Fatalf("R2: the answer of %s of %s shares memory with what was handed in", name, tell(s))
			}
		}
	}
}

// TestNoTwoListsOfOneAnswerShareMemory: each list of an answer is spoilt alone, its spare room too; the others stay.
func TestNoTwoListsOfOneAnswerShareMemory(t *testing.T) {
	rolled := []api.Event{snap("x"), roll("x"), snap("y"), roll("y"), snap("z"), unsnap("x"), snap("x"), resize(3), roll("z")}
	for _, s := range append(right(), crooked()...) {
		for i := range rolled {
			for _, l := range [][]api.Event{rolled[:i+1], rolled[i:], few()[i:]} {
				got := model.Fold(roomy(s), l...)
				for k := -1; k < len(got.Snaps); k++ {
					want, list := copied(got), got.Data
					if k >= 0 {
						list = got.Snaps[k].Data
					}
					spoilBytes(list)
					if k >= 0 {
						want.Snaps[k].Data = list
					} else {
						want.Data = list
					}
					if words(got) != words(want) {
						t.Fatalf("R2: two lists of a Fold of %s share memory", tell(s))
					}
				}
			}
		}
	}
}

func TestOtherAnswersAreNewMemory(t *testing.T) {
	one, two := model.New(9), model.New(9)
	spoil(one)
	if string(two.Data) != noughts(9) || string(model.New(9).Data) != noughts(9) {
		t.Error("R2: two News share memory")
	}
	s := roomy(image("abcd", "p", "1234"))
	was := whole(s)
	for _, name := range []string{"", "p"} {
		for off := range 5 {
			for n := range 5 - off {
				a, _ := model.Read(s, name, off, n)
				b, _ := model.Read(s, name, off, n)
				want := string(b)
				spoilBytes(a)
				if string(b) != want || whole(s) != was {
					t.Errorf("R2: Read of %q, %d, %d shares memory", name, off, n)
				}
			}
		}
	}
	// What is written is not kept.
	data := []byte("XY")
	got, _ := model.Apply(s, api.Event{Kind: api.Write, Data: data})
	spoilBytes(data)
	if string(got.Data) != "XYcd" {
		t.Errorf("R2: Apply keeps the Data of a Write: %s", tell(got))
	}
	spoil(got)
	if string(data) != "\x0d\x0c" {
		t.Error("R2: Apply's answer shares memory with the Data of a Write")
	}
}

// TestSpareRoomIsNotRead: what lies behind a list's length is none of it, a snapshot there neither.
func TestSpareRoomIsNotRead(t *testing.T) {
	s := roomy(image("ab", "p", "1"))
	isDone(t, s, resize(4), image("ab\x00\x00", "p", "1"))
	isDone(t, s, resize(512), image("ab"+noughts(510), "p", "1"))
	isDone(t, s, snap("a"), image("ab", "p", "1", "a", "ab"))
	isDone(t, s, snap("spare"), image("ab", "p", "1", "spare", "ab"))
	isDone(t, s, roll("p"), image("1", "p", "1"))
	isRefused(t, s, unsnap("a"), api.ErrNone)
	isRefused(t, s, roll("spare"), api.ErrNone)
	isRefused(t, s, write(2, "X"), api.ErrRange)
	isRefused(t, s, zero(1, 2), api.ErrRange)
	isNoRead(t, s, "", 0, 3, api.ErrRange)
	isNoRead(t, s, "p", 0, 2, api.ErrRange)
	isNoRead(t, s, "a", 0, 0, api.ErrNone)
	isFold(t, s, image("1\x00\x00", "p", "1"), roll("p"), resize(3))
	isRight(t, s, true)
	isSame(t, s, image("ab", "p", "1"), true)
	isSame(t, roomy(image("ab", "p", "1")), s, true)
	for _, s := range append(right(), crooked()...) {
		isRight(t, roomy(s), model.Right(s))
		for _, e := range few() {
			a, why := model.Apply(s, e)
			b, why2 := model.Apply(roomy(s), e)
			if why != why2 || words(a) != words(b) {
				t.Errorf("R5: Apply of %s, %s, hangs on spare room: %s, %v", tell(s), deed(e), tell(b), why2)
			}
		}
	}
	// A Write's own spare room.
	isDone(t, image("abcd"), api.Event{Kind: api.Write, Data: []byte("XYZ")[:1]}, image("Xbcd"))
	isRefused(t, image("abcd"), api.Event{Kind: api.Write, Data: []byte("XYZ")[:0]}, api.ErrArg)
}

// TestNilAndEmpty (R4): an image of no bytes, a snapshot of none, no snapshots, and an event's Data.
func TestNilAndEmpty(t *testing.T) {
	nils := api.State{Snaps: []api.Old{{Name: "a"}}}
	empties := api.State{Data: []byte{}, Snaps: []api.Old{{Name: "a", Data: []byte{}}}}
	for _, l := range [][2]api.State{{{}, {Data: []byte{}, Snaps: []api.Old{}}}, {nils, empties}} {
		a, b := l[0], l[1]
		isSame(t, a, b, true)
		isRight(t, a, true)
		isRight(t, b, true)
		for _, e := range events() {
			x, why := model.Apply(a, e)
			y, why2 := model.Apply(b, e)
			if why != why2 || words(x) != words(y) || model.Check(a, e) != model.Check(b, e) || words(model.Fold(a, e)) != words(model.Fold(b, e)) {
				t.Errorf("R4: %s: %s, %v; %s, %v", deed(e), tell(x), why, tell(y), why2)
			}
		}
		isRead(t, a, "", 0, 0, "")
		isRead(t, b, "", 0, 0, "")
	}
	isRead(t, nils, "a", 0, 0, "")
	isRead(t, empties, "a", 0, 0, "")
	isDone(t, nils, roll("a"), image("", "a", ""))
	isDone(t, image("ab"), api.Event{Kind: api.Flush, Data: []byte{}}, image("ab"))
	isDone(t, image("ab"), api.Event{Kind: api.Resize, Len: 1, Data: []byte{}}, image("a"))
	isRefused(t, image("ab"), api.Event{Kind: api.Write, Data: []byte{}}, api.ErrArg)
	isRefused(t, image("ab"), api.Event{Kind: api.Write}, api.ErrArg)
}

func TestSameAgain(t *testing.T) {
	s := image("abcd", rows(8)...)
	l := few()
	want := words(model.Fold(s, l...))
	b, _ := model.Read(s, "n3", 0, 2)
	for _, other := range crooked() {
		calls(other, s, snap("n3"), "n3", 1, 1)
	}
	for range 20 {
		if got := words(model.Fold(s, l...)); got != want {
			t.Fatalf("R4: Fold again: %s, not %s", got, want)
		}
		if again, _ := model.Read(s, "n3", 0, 2); !bytes.Equal(again, b) {
			t.Fatalf("R4: Read again: %q, not %q", again, b)
		}
		isRefused(t, s, snap("z"), api.ErrFull)
	}
}
