package diff_test

import (
	"encoding/binary"
	"fmt"
	"math"
	"math/rand"
	"regexp"
	"slices"
	"strings"
	"testing"

	"hectograph/api"
	"hectograph/diff"
	"hectograph/event"
	"hectograph/model"
)

func write(off int, data string) api.Event {
	return api.Event{Kind: api.Write, Off: off, Data: []byte(data)}
}

func discard(off, n int) api.Event {
	return api.Event{Kind: api.Discard, Off: off, Len: n}
}

func zero(off, n int) api.Event {
	return api.Event{Kind: api.Zero, Off: off, Len: n}
}

func resize(n int) api.Event {
	return api.Event{Kind: api.Resize, Len: n}
}

func snap(name string) api.Event {
	return api.Event{Kind: api.Snap, Name: name}
}

func unsnap(name string) api.Event {
	return api.Event{Kind: api.Unsnap, Name: name}
}

func roll(name string) api.Event {
	return api.Event{Kind: api.Roll, Name: name}
}

func flush() api.Event {
	return api.Event{Kind: api.Flush}
}

// image is a state of those bytes, and of snapshots, of each its name and its bytes.
func image(data string, snaps ...string) api.State {
	s := api.State{Data: []byte(data)}
	for i := 0; i+1 < len(snaps); i += 2 {
		s.Snaps = append(s.Snaps, api.Old{Name: snaps[i], Data: []byte(snaps[i+1])})
	}
	return s
}

// long is a text of n bytes, none of them nought, no two side by side alike.
func long(n int) string {
	b := make([]byte, n)
	for i := range b {
		b[i] = byte(7*i%251 + 1)
	}
	return string(b)
}

// other is a text of n bytes, none of them nought, each unlike long's there.
func other(n int) string {
	b := []byte(long(n))
	for i := range b {
		b[i] = b[i]%255 + 1
	}
	return string(b)
}

// noughts is a text of so many.
func noughts(n int) string {
	return strings.Repeat("\x00", n)
}

// rows is n snapshots, of each its name, n0 and so on, and its bytes, which are short and unlike.
func rows(n int) []string {
	var l []string
	for i := range n {
		l = append(l, fmt.Sprint("n", i), long(i + 1)[i:]+"s")
	}
	return l
}

// full is MaxSnaps snapshots of MaxSize bytes, all unlike.
func full(names, first string) []string {
	var l []string
	for i := range 8 {
		l = append(l, fmt.Sprint(names, i), fmt.Sprint(i, first, long(510)))
	}
	return l
}

// right is states that are Right, the edges among them.
func right() []api.State {
	return []api.State{
		{}, image(""), image("a"), image("abcd"), image(noughts(4)), image(long(64)), image(long(511)), image(long(512)), image(other(512)), image(noughts(512)),
		image("", "a", ""), image("", "a", "x"), image("abcd", "a", ""), image("abcd", "a", "abcd"), image("abcd", "b", "abcd"), image("abcd", "b", "xy", "a", "pqrstu"), image("abcd", "a", "pqrstu", "b", "xy"),
		image("abcd", rows(3)...), image("abcd", rows(7)...), image("abcd", rows(8)...), image("", rows(8)...), image(long(512), full("f", "x")...), image("", full("f", "y")...), image("abcd", full("g", "x")...),
		image("abcd", "a", long(512), "b", "", "c", "abcd"), image("abcd", "a", long(512), "b", "q", "c", "abcd"), image("abcd", "abcdefghijkl", "1", "-", "2", "0", "3", "0-9-a-z", "4"),
	}
}

// crooked is states that aren't Right: too many bytes, in the image and in a snapshot; too many snapshots; names that are none; names alike.
func crooked() []api.State {
	return []api.State{
		image(long(513)), image(noughts(600)), image(long(1 << 16)), image(noughts(513), "a", "b"),
		image("abcd", "a", long(513)), image("abcd", "a", "x", "b", long(600)), image("", "a", long(1<<16), "b", "y"),
		image("abcd", rows(9)...), image("abcd", rows(10)...), image("", rows(100)...),
		image("abcd", "", "x"), image("abcd", "A", "x"), image("abcd", "a", "x", "~a", "y"), image("abcd", "abcdefghijklm", "x"), image("abcd", "a b", "x"),
		image("abcd", "é", "x"), image("abcd", "a\x00", "x"), image("abcd", "\xff", "x"), image("abcd", strings.Repeat("a", 300), "x"), image("abcd", "a", "x", "", "y"),
		image("abcd", "a", "x", "a", "yz"), image("abcd", "a", "", "a", ""), image("abcd", "b", "1", "a", "x", "c", "2", "a", "yz", "b", "3"), image("", append(rows(7), "n0", "x")...),
		image(long(600), append(rows(12), "n0", long(600), "", "x", "A", "y")...),
	}
}

// plainBytes is Bytes by a text with an x for each byte that is unlike, in which a pattern looks for the pieces: an answer that Bytes is held against.
func plainBytes(a, b string) []api.Event {
	var l []api.Event
	if len(a) > 512 || len(b) > 512 {
		return nil
	}
	if len(a) != len(b) {
		l = append(l, resize(len(b)))
	}
	a += noughts(512)
	marks := make([]byte, len(b))
	for i := range b {
		marks[i] = "x="[strings.Count(a[i:i+1], b[i:i+1])]
	}
	for _, p := range pieces.FindAllIndex(marks, -1) {
		if piece := b[p[0]:p[1]]; strings.Trim(piece, "\x00") == "" {
			l = append(l, zero(p[0], len(piece)))
		} else {
			l = append(l, write(p[0], piece))
		}
	}
	return l
}

var pieces = regexp.MustCompile("x{1,64}")

// plainWay is Way by snapshots as texts, in front of which the common ones are taken off.
func plainWay(a, b api.State) []api.Event {
	x, y := texts(a), texts(b)
	for len(x) > 0 && len(y) > 0 && x[0] == y[0] {
		x, y = x[1:], y[1:]
	}
	var l []api.Event
	for _, o := range x {
		l = append([]api.Event{unsnap(o[0])}, l...)
	}
	last := string(a.Data)
	for _, o := range append(y, [2]string{"", string(b.Data)}) {
		l = append(l, plainBytes(last, o[1])...)
		if o[0] != "" {
			l = append(l, snap(o[0]))
		}
		last = o[1]
	}
	return l
}

// texts is the snapshots of s, each as its name and its bytes.
func texts(s api.State) [][2]string {
	var l [][2]string
	for _, o := range s.Snaps {
		l = append(l, [2]string{o.Name, string(o.Data)})
	}
	return l
}

// plainLong is how many bytes those events that are Right have, by Go's own varints.
func plainLong(l []api.Event) int {
	n := 0
	vary := func(x int) int { return len(binary.AppendUvarint(nil, uint64(x))) }
	for _, e := range l {
		if !event.Right(e) {
			continue
		}
		n += 1 + len(e.Data) + len(e.Name)
		switch e.Kind {
		case api.Write:
			n += vary(e.Off)
		case api.Discard, api.Zero:
			n += vary(e.Off) + vary(e.Len)
		case api.Resize:
			n += vary(e.Len)
		}
	}
	return n
}

// deed is e as text, cut where it is long.
func deed(e api.Event) string {
	return fmt.Sprintf("{Kind %d, Off %d, Len %d, %d bytes %.20q, Name %.20q}", e.Kind, e.Off, e.Len, len(e.Data), e.Data, e.Name)
}

// deeds is l as text, cut where it is long.
func deeds(l []api.Event) string {
	out := fmt.Sprint(len(l), " events:")
	for _, e := range l[:min(len(l), 20)] {
		out += " " + deed(e)
	}
	return out
}

// tell is s as text for who reads it, cut where it is long.
func tell(s api.State) string {
	l := fmt.Sprintf("%d bytes, %d snapshots: %.40q", len(s.Data), len(s.Snaps), s.Data)
	for _, o := range s.Snaps[:min(len(s.Snaps), 10)] {
		l += fmt.Sprintf(" %.20q=%.20q", o.Name, o.Data)
	}
	return l
}

// same tells whether two lists are the same events in the same order.
func same(a, b []api.Event) bool {
	return slices.EqualFunc(a, b, event.Same)
}

// copied is s in memory of its own.
func copied(s api.State) api.State {
	out := image(string(s.Data))
	for _, o := range s.Snaps {
		out.Snaps = append(out.Snaps, api.Old{Name: o.Name, Data: append([]byte{}, o.Data...)})
	}
	return out
}

// kept is events in memory of their own.
func kept(l []api.Event) []api.Event {
	var out []api.Event
	for _, e := range l {
		e.Data = append([]byte{}, e.Data...)
		out = append(out, e)
	}
	return out
}

// isBytes fails the test, unless Bytes answers just those events.
func isBytes(t *testing.T, a, b string, want ...api.Event) {
	t.Helper()
	x, y := []byte(a), []byte(b)
	if got := diff.Bytes(x, y); !same(got, want) {
		t.Errorf("P15.1: Bytes of %d bytes %.30q, %d bytes %.30q: %s, not %s", len(a), a, len(b), b, deeds(got), deeds(want))
	}
	if string(x) != a || string(y) != b {
		t.Errorf("R2: Bytes changed %.30q, %.30q", a, b)
	}
}

// isWay fails the test, unless Way answers just those events.
func isWay(t *testing.T, a, b api.State, want ...api.Event) {
	t.Helper()
	x, y := copied(a), copied(b)
	if got := diff.Way(a, b); !same(got, want) {
		t.Errorf("P15.2: Way of %s, to %s: %s, not %s", tell(a), tell(b), deeds(got), deeds(want))
	}
	if !model.Same(a, x) || !model.Same(b, y) {
		t.Errorf("R2: Way changed %s, %s", tell(x), tell(y))
	}
}

// isLong fails the test, unless Long answers that.
func isLong(t *testing.T, want int, l ...api.Event) {
	t.Helper()
	was := kept(l)
	if got := diff.Long(l); got != want {
		t.Errorf("P15.2: Long of %s: %d, not %d", deeds(l), got, want)
	}
	if !same(l, was) {
		t.Errorf("R2: Long changed %s", deeds(was))
	}
}

// leads fails the test, unless the way from a leads to b, and each of its events is taken.
func leads(t *testing.T, a, b api.State) {
	t.Helper()
	l := diff.Way(a, b)
	if got := model.Fold(a, l...); !model.Same(got, b) {
		t.Fatalf("P15.3: the Way from %s to %s leads to %s: %s", tell(a), tell(b), tell(got), deeds(l))
	}
	s := a
	for i, e := range l {
		next, why := model.Apply(s, e)
		if why != api.OK {
			t.Fatalf("P15.3: event %d of the Way from %s to %s: %v: %s", i, tell(a), tell(b), why, deeds(l))
		}
		s = next
	}
	for _, s := range []api.State{a, b} {
		if l := diff.Way(s, copied(s)); len(l) > 0 {
			t.Fatalf("P15.3: the Way from %s to itself: %s", tell(s), deeds(l))
		}
	}
}

// P15.1: Bytes

func TestExamples(t *testing.T) {
	// The run.
	isBytes(t, "", "")
	isBytes(t, "\x00\x00", "\x00\x01", write(1, "\x01"))
	isBytes(t, "\x01", "\x00", zero(0, 1))
}

func TestBytesOfAlikeOnes(t *testing.T) {
	for _, n := range []int{0, 1, 2, 63, 64, 65, 128, 511, 512} {
		isBytes(t, long(n), long(n))
		isBytes(t, noughts(n), noughts(n))
	}
	b := []byte("abcd")
	if l := diff.Bytes(b, b); len(l) > 0 {
		t.Errorf("P15.1: Bytes of one list and itself: %s", deeds(l))
	}
}

func TestBytes(t *testing.T) {
	isBytes(t, "a", "b", write(0, "b"))
	isBytes(t, "\x00", "\x01", write(0, "\x01"))
	isBytes(t, "abcd", "Xbcd", write(0, "X"))
	isBytes(t, "abcd", "aXcd", write(1, "X"))
	isBytes(t, "abcd", "abcX", write(3, "X"))
	isBytes(t, "abcd", "aXYd", write(1, "XY"))
	isBytes(t, "abcd", "WXYZ", write(0, "WXYZ"))
	isBytes(t, "abcd", "XbcY", write(0, "X"), write(3, "Y"))
	isBytes(t, "abcdef", "XbYdZf", write(0, "X"), write(2, "Y"), write(4, "Z"))
	isBytes(t, "abcdef", "XYcdZf", write(0, "XY"), write(4, "Z"))
	// Noughts alone, and noughts among others.
	isBytes(t, "abcd", noughts(4), zero(0, 4))
	isBytes(t, "abcd", "a\x00\x00d", zero(1, 2))
	isBytes(t, "abcd", "\x00b\x00d", zero(0, 1), zero(2, 1))
	isBytes(t, "abcd", "a\x00X\x00", write(1, "\x00X\x00"))
	isBytes(t, "abcd", "\x00\x00\x00X", write(0, "\x00\x00\x00X"))
	isBytes(t, "abcd", "X\x00\x00\x00", write(0, "X\x00\x00\x00"))
	isBytes(t, "abcd", "\x00bXd", zero(0, 1), write(2, "X"))
	// Noughts that are there already belong to no run.
	isBytes(t, "a\x00b", "X\x00Y", write(0, "X"), write(2, "Y"))
	isBytes(t, "a\x00b", noughts(3), zero(0, 1), zero(2, 1))
	isBytes(t, "\x00\x00a", noughts(3), zero(2, 1))
	// Bytes of any value.
	isBytes(t, "\x00\x7f\x80\xff", "\xff\x80\x7f\x00", write(0, "\xff\x80\x7f\x00"))
	isBytes(t, "\x01\x02", "\xff\x00", write(0, "\xff\x00"))
}

func TestBytesOfUnlikeLengths(t *testing.T) {
	// To less: what is left is held against b.
	isBytes(t, "abcd", "abc", resize(3))
	isBytes(t, "abcd", "a", resize(1))
	isBytes(t, "abcd", "", resize(0))
	isBytes(t, "abcd", "aXc", resize(3), write(1, "X"))
	isBytes(t, "abcd", "\x00\x00", resize(2), zero(0, 2))
	isBytes(t, "a", "", resize(0))
	isBytes(t, long(512), "", resize(0))
	isBytes(t, long(512), long(511), resize(511))
	// To more: noughts are right already, what else is behind the old end isn't.
	isBytes(t, "", "a", resize(1), write(0, "a"))
	isBytes(t, "", "\x00", resize(1))
	isBytes(t, "", noughts(512), resize(512))
	isBytes(t, "ab", "ab\x00\x00", resize(4))
	isBytes(t, "ab", "ab\x00X", resize(4), write(3, "X"))
	isBytes(t, "ab", "abX\x00", resize(4), write(2, "X"))
	isBytes(t, "ab", "abXY", resize(4), write(2, "XY"))
	isBytes(t, "ab", "aXYZ", resize(4), write(1, "XYZ"))
	isBytes(t, "ab", "aX\x00Z", resize(4), write(1, "X"), write(3, "Z"))
	isBytes(t, "ab", "a\x00\x00\x00", resize(4), zero(1, 1))
	isBytes(t, "ab", "a\x00Y\x00", resize(4), write(1, "\x00Y"))
	isBytes(t, "ab", "X"+noughts(511), resize(512), write(0, "X\x00"))
	isBytes(t, long(511), long(511)+"X", resize(512), write(511, "X"))
	isBytes(t, long(511), long(511)+"\x00", resize(512))
}

// TestBytesOfTooMany: one byte more than MaxSize, on either side and on both.
func TestBytesOfTooMany(t *testing.T) {
	for _, n := range []int{513, 514, 600, 1 << 10, 1 << 16, 1 << 20} {
		for _, b := range []string{"", "a", long(512), long(513), noughts(513)} {
			isBytes(t, long(n), b)
			isBytes(t, b, long(n))
			isBytes(t, b, noughts(n))
		}
	}
	isBytes(t, long(512), "a", resize(1), write(0, "a"))
	isBytes(t, "", "a"+noughts(511), resize(512), write(0, "a"))
}

// TestRunsAreCut: runs of each number of bytes about MaxData, twice that and MaxSize, at the beginning, within and at the end of an image.
func TestRunsAreCut(t *testing.T) {
	isBytes(t, long(63), other(63), write(0, other(63)))
	isBytes(t, long(64), other(64), write(0, other(64)))
	isBytes(t, long(65), other(65), write(0, other(65)[:64]), write(64, other(65)[64:]))
	isBytes(t, long(128), other(128), write(0, other(64)), write(64, other(128)[64:]))
	isBytes(t, long(65), noughts(65), zero(0, 64), zero(64, 1))
	isBytes(t, long(512), noughts(512), zero(0, 64), zero(64, 64), zero(128, 64), zero(192, 64), zero(256, 64), zero(320, 64), zero(384, 64), zero(448, 64))
	for _, size := range []int{1, 63, 64, 65, 127, 128, 129, 192, 300, 511, 512} {
		for _, n := range []int{1, 2, 63, 64, 65, 66, 127, 128, 129, 192, 193, 510, 511, 512} {
			for _, at := range []int{0, 1, 2, 63, 64, 65, 100, size - n - 1, size - n} {
				if at < 0 || at+n > size {
					continue
				}
				was := long(size)
				for _, fill := range []string{other(size)[at : at+n], noughts(n)} {
					var want []api.Event
					for k := 0; k < n; k += 64 {
						if piece := fill[k:min(k+64, n)]; piece[0] == 0 {
							want = append(want, zero(at+k, len(piece)))
						} else {
							want = append(want, write(at+k, piece))
						}
					}
					isBytes(t, was, was[:at]+fill+was[at+n:], want...)
				}
			}
		}
	}
}

// TestPiecesOfNoughts: whether a piece is a Zero or a Write is asked of each piece alone.
func TestPiecesOfNoughts(t *testing.T) {
	a := long(200)
	// A piece of noughts behind a full one, and ahead of one.
	isBytes(t, a[:65], other(64)+"\x00", write(0, other(64)), zero(64, 1))
	isBytes(t, a[:128], other(64)+noughts(64), write(0, other(64)), zero(64, 64))
	isBytes(t, a[:128], noughts(64)+other(64), zero(0, 64), write(64, other(64)))
	isBytes(t, a[:65], noughts(64)+"X", zero(0, 64), write(64, "X"))
	isBytes(t, a[:192], other(64)+noughts(64)+other(64), write(0, other(64)), zero(64, 64), write(128, other(64)))
	// The noughts of a piece that has others too are written, also where they come first or last.
	isBytes(t, a[:65], noughts(63)+"XY", write(0, noughts(63)+"X"), write(64, "Y"))
	isBytes(t, a[:66], "X"+noughts(65), write(0, "X"+noughts(63)), zero(64, 2))
	isBytes(t, a[:66], noughts(65)+"X", zero(0, 64), write(64, "\x00X"))
	isBytes(t, a[:129], noughts(32)+other(32)+noughts(65), write(0, noughts(32)+other(32)), zero(64, 64), zero(128, 1))
	// Pieces are counted from the run's beginning, not from the image's.
	isBytes(t, a, a[:10]+noughts(64)+"XY"+a[76:], zero(10, 64), write(74, "XY"))
	isBytes(t, a, a[:60]+other(70)[:64]+noughts(64)+a[188:], write(60, other(64)), zero(124, 64))
	// An alike byte ends a run, and the next one is counted anew.
	isBytes(t, a, noughts(40)+a[40:41]+noughts(40)+a[81:], zero(0, 40), zero(41, 40))
	isBytes(t, a, noughts(64)+a[64:65]+noughts(64)+a[129:], zero(0, 64), zero(65, 64))
	isBytes(t, a, noughts(70)+a[70:71]+noughts(64)+a[135:], zero(0, 64), zero(64, 6), zero(71, 64))
}

// TestAllShortBytes: all rows of up to four bytes of three kinds, each against each, and against the plain reckoning.
func TestAllShortBytes(t *testing.T) {
	var l []string
	for _, n := range []int{0, 1, 2, 3, 4} {
		for k := range int(math.Pow(3, float64(n))) {
			b := make([]byte, n)
			for i := range b {
				b[i], k = "\x00xy"[k%3], k/3
			}
			l = append(l, string(b))
		}
	}
	for _, a := range l {
		for _, b := range l {
			isBytes(t, a, b, plainBytes(a, b)...)
		}
	}
}

// drawn is up to most bytes, mostly in runs of one kind, some of them noughts.
func drawn(r *rand.Rand, most int) string {
	b := make([]byte, r.Intn(most+1))
	for i := 0; i < len(b); {
		c := byte(r.Intn(3))
		for n := r.Intn(1 + r.Intn(150)); n >= 0 && i < len(b); n-- {
			b[i] = c
			i++
		}
	}
	return string(b)
}

func TestBytesAgainstThePlainReckoning(t *testing.T) {
	r := rand.New(rand.NewSource(151))
	for range 4000 {
		a, b := drawn(r, 516), drawn(r, 516)
		switch r.Intn(4) {
		case 0:
			b = a[:r.Intn(len(a)+1)] + b
		case 1:
			a = (a + noughts(512))[:len(b)]
		}
		isBytes(t, a, b, plainBytes(a, b)...)
		if len(a) <= 512 && len(b) <= 512 {
			leads(t, image(a), image(b))
		}
	}
}

// P15.2: Way

func TestWayWithoutSnapshots(t *testing.T) {
	isWay(t, image(""), image(""))
	isWay(t, image("abcd"), image("abcd"))
	isWay(t, image("abcd"), image("aXcd"), write(1, "X"))
	isWay(t, image("abcd"), image("a\x00\x00d"), zero(1, 2))
	isWay(t, image("abcd"), image("ab"), resize(2))
	isWay(t, image("ab"), image("abcd"), resize(4), write(2, "cd"))
	isWay(t, image(""), image(long(65)), resize(65), write(0, long(64)), write(64, long(65)[64:]))
	isWay(t, image(long(512)), image(""), resize(0))
}

func TestWayOfAlikeSnapshots(t *testing.T) {
	for n := range 9 {
		isWay(t, image("abcd", rows(n)...), image("abcd", rows(n)...))
		isWay(t, image("abcd", rows(n)...), image("Xbcd", rows(n)...), write(0, "X"))
		isWay(t, image("abcd", rows(n)...), image("", rows(n)...), resize(0))
	}
	isWay(t, image("abcd", "a", ""), image("abcd", "a", ""))
	isWay(t, image(long(512), full("f", "x")...), image(long(512), full("f", "x")...))
}

func TestWayToMoreSnapshots(t *testing.T) {
	isWay(t, image("ab"), image("ab", "s", "ab"), snap("s"))
	isWay(t, image("ab"), image("ab", "s", "b"), resize(1), write(0, "b"), snap("s"), resize(2), write(0, "ab"))
	isWay(t, image("ab"), image("ab", "s", ""), resize(0), snap("s"), resize(2), write(0, "ab"))
	isWay(t, image(""), image("", "s", "x"), resize(1), write(0, "x"), snap("s"), resize(0))
	isWay(t, image("ab"), image("XY", "s", "aY"), write(1, "Y"), snap("s"), write(0, "X"))
	isWay(t, image("ab"), image("ab", "s", "ab", "t", "ab"), snap("s"), snap("t"))
	isWay(t, image("ab"), image("ab", "t", "aX", "s", "\x00X"), write(1, "X"), snap("t"), zero(0, 1), snap("s"), write(0, "ab"))
	// Behind the first ones that are alike.
	isWay(t, image("ab", "s", "q"), image("ab", "s", "q", "t", "ab"), snap("t"))
	isWay(t, image("ab", "s", "q"), image("ab", "s", "q", "t", "aX", "u", "XX"), write(1, "X"), snap("t"), write(0, "X"), snap("u"), write(0, "ab"))
	// The bytes of those that stay are no part of the way.
	isWay(t, image("ab", "s", long(512)), image("ac", "s", long(512), "t", "ab"), snap("t"), write(1, "c"))
}

func TestWayToFewerSnapshots(t *testing.T) {
	isWay(t, image("ab", "s", "ab"), image("ab"), unsnap("s"))
	isWay(t, image("ab", "s", "x", "t", "y"), image("ab"), unsnap("t"), unsnap("s"))
	isWay(t, image("ab", "t", "x", "s", "y"), image("ab"), unsnap("s"), unsnap("t"))
	isWay(t, image("ab", "s", "x", "t", "y", "u", "z"), image("ab", "s", "x"), unsnap("u"), unsnap("t"))
	isWay(t, image("ab", "s", "x", "t", "y", "u", "z"), image("aX", "s", "x", "t", "y"), unsnap("u"), write(1, "X"))
	isWay(t, image("ab", rows(8)...), image("ab"), unsnap("n7"), unsnap("n6"), unsnap("n5"), unsnap("n4"), unsnap("n3"), unsnap("n2"), unsnap("n1"), unsnap("n0"))
}

// TestWayOfSnapshotsThatAreUnlike: alike in name alone, in bytes alone, at another place, or the first of several.
func TestWayOfSnapshotsThatAreUnlike(t *testing.T) {
	// In name alone.
	isWay(t, image("ab", "s", "ab"), image("ab", "s", "aX"), unsnap("s"), write(1, "X"), snap("s"), write(1, "b"))
	isWay(t, image("ab", "s", "ab"), image("ab", "s", "abc"), unsnap("s"), resize(3), write(2, "c"), snap("s"), resize(2))
	isWay(t, image("ab", "s", "ab\x00"), image("ab", "s", "ab"), unsnap("s"), snap("s"))
	isWay(t, image("ab", "s", ""), image("ab", "s", "\x00"), unsnap("s"), resize(1), zero(0, 1), snap("s"), resize(2), write(0, "ab"))
	// In bytes alone.
	isWay(t, image("ab", "s", "ab"), image("ab", "t", "ab"), unsnap("s"), snap("t"))
	isWay(t, image("ab", "s", ""), image("ab", "t", ""), unsnap("s"), resize(0), snap("t"), resize(2), write(0, "ab"))
	isWay(t, image("ab", "s", "ab"), image("ab", "ss", "ab"), unsnap("s"), snap("ss"))
	// At another place.
	isWay(t, image("ab", "s", "ab", "t", "ab"), image("ab", "t", "ab", "s", "ab"), unsnap("t"), unsnap("s"), snap("t"), snap("s"))
	isWay(t, image("ab", "s", "ab", "t", "ab"), image("ab", "t", "ab"), unsnap("t"), unsnap("s"), snap("t"))
	isWay(t, image("ab", "t", "ab"), image("ab", "s", "ab", "t", "ab"), unsnap("t"), snap("s"), snap("t"))
	isWay(t, image("ab", "s", "1", "t", "2", "u", "3"), image("ab", "s", "1", "u", "3"), unsnap("u"), unsnap("t"), resize(1), write(0, "3"), snap("u"), resize(2), write(0, "ab"))
	// The first few are alike, then one isn't: those behind it go too, alike or not.
	isWay(t, image("ab", "s", "ab", "t", "ab", "u", "ab"), image("ab", "s", "ab", "t", "aX", "u", "ab"), unsnap("u"), unsnap("t"), write(1, "X"), snap("t"), write(1, "b"), snap("u"))
	isWay(t, image("ab", "s", "aX", "t", "ab", "u", "ab"), image("ab", "s", "ab", "t", "ab", "u", "ab"), unsnap("u"), unsnap("t"), unsnap("s"), snap("s"), snap("t"), snap("u"))
	isWay(t, image("ab", "s", "ab", "t", "ab", "u", "ab"), image("ab", "s", "ab", "t", "ab", "v", "ab"), unsnap("u"), snap("v"))
}

// TestWayWithMaxSnapsOnBoth: room for b's is there just behind a's.
func TestWayWithMaxSnapsOnBoth(t *testing.T) {
	a, b := rows(8), rows(8)
	for i := range 8 {
		a[2*i+1], b[2*i], b[2*i+1] = "ab", fmt.Sprint("m", i), "ab"
	}
	for k := range 9 {
		mixed := append(append([]string{}, a[:2*k]...), b[2*k:]...)
		var want []api.Event
		for i := 7; i >= k; i-- {
			want = append(want, unsnap(fmt.Sprint("n", i)))
		}
		for i := k; i < 8; i++ {
			want = append(want, snap(fmt.Sprint("m", i)))
		}
		isWay(t, image("ab", a...), image("ab", mixed...), want...)
		leads(t, image("ab", a...), image("ab", mixed...))
		leads(t, image("ab", mixed...), image("XY", b...))
	}
	leads(t, image(long(512), full("f", "x")...), image(other(512), full("g", "y")...))
	leads(t, image(long(512), full("f", "x")...), image(other(512), full("f", "y")...))
}

// TestWayOfWhatIsNotRight: on either side, on both, also from one to itself, and where no event would be needed.
func TestWayOfWhatIsNotRight(t *testing.T) {
	for i, a := range crooked() {
		for _, b := range right() {
			isWay(t, a, b)
			isWay(t, b, a)
		}
		for _, b := range crooked()[i:] {
			isWay(t, a, b)
			isWay(t, b, a)
		}
	}
}

func TestEachWayAgainstThePlainReckoning(t *testing.T) {
	for _, a := range right() {
		for _, b := range right() {
			isWay(t, a, b, plainWay(a, b)...)
		}
	}
}

// P15.2: Long

func TestLong(t *testing.T) {
	isLong(t, 0)
	isLong(t, 1, flush())
	isLong(t, 3, write(0, "a"))
	isLong(t, 5, write(0, "abc"))
	isLong(t, 3, write(127, "a"))
	isLong(t, 4, write(128, "a"))
	isLong(t, 4, write(511, "a"))
	isLong(t, 66, write(0, long(64)))
	isLong(t, 67, write(448, long(64)))
	isLong(t, 3, discard(0, 1))
	isLong(t, 4, discard(0, 128))
	isLong(t, 4, discard(300, 1))
	isLong(t, 5, discard(128, 128))
	isLong(t, 3, zero(0, 1))
	isLong(t, 4, zero(0, 512))
	isLong(t, 5, zero(128, 384))
	isLong(t, 2, resize(0))
	isLong(t, 2, resize(127))
	isLong(t, 3, resize(128))
	isLong(t, 3, resize(512))
	isLong(t, 2, snap("a"))
	isLong(t, 13, snap("abcdefghijkl"))
	isLong(t, 5, unsnap("abcd"))
	isLong(t, 4, roll("a-0"))
	isLong(t, 34, flush(), write(0, "abc"), discard(0, 128), zero(0, 512), resize(2), snap("abcd"), unsnap("abcd"), roll("a-0"), flush(), write(1, "x"))
	isLong(t, 3, flush(), flush(), flush())
}

// TestLongOfWhatIsNotRight: an event that isn't Right has no bytes, wherever it stands; the others have theirs.
func TestLongOfWhatIsNotRight(t *testing.T) {
	for _, e := range wrong() {
		isLong(t, 0, e)
		isLong(t, 0, e, e)
		isLong(t, 1, e, flush())
		isLong(t, 1, flush(), e)
		isLong(t, 6, write(0, "abc"), e, flush())
	}
	isLong(t, 0, wrong()...)
	isLong(t, 2, append(append([]api.Event{flush()}, wrong()...), flush())...)
}

// wrong is events that aren't Right: of each kind, one thing of it that may not be; and kinds that are none.
func wrong() []api.Event {
	l := []api.Event{
		{}, {Kind: -1}, {Kind: 9}, {Kind: 99}, {Kind: 257, Data: []byte("a")}, {Kind: 264},
		write(0, ""), write(-1, "a"), write(512, "a"), write(511, "ab"), write(0, long(65)), write(449, long(64)), {Kind: api.Write, Data: []byte("a"), Len: 1}, {Kind: api.Write, Data: []byte("a"), Name: "a"},
		resize(-1), resize(513), {Kind: api.Resize, Off: 1, Len: 1}, {Kind: api.Resize, Len: 1, Data: []byte("a")},
		{Kind: api.Flush, Off: 1}, {Kind: api.Flush, Len: 1}, {Kind: api.Flush, Data: []byte("a")}, {Kind: api.Flush, Name: "a"},
	}
	for _, kind := range []int{api.Discard, api.Zero} {
		l = append(l, api.Event{Kind: kind}, api.Event{Kind: kind, Len: 513}, api.Event{Kind: kind, Len: -1}, api.Event{Kind: kind, Off: -1, Len: 1}, api.Event{Kind: kind, Off: 512, Len: 1}, api.Event{Kind: kind, Len: 1, Data: []byte("a")}, api.Event{Kind: kind, Len: 1, Name: "a"})
	}
	for _, kind := range []int{api.Snap, api.Unsnap, api.Roll} {
		l = append(l, api.Event{Kind: kind}, api.Event{Kind: kind, Name: "A"}, api.Event{Kind: kind, Name: "~a"}, api.Event{Kind: kind, Name: "abcdefghijklm"}, api.Event{Kind: kind, Name: "a", Off: 1}, api.Event{Kind: kind, Name: "a", Len: 1}, api.Event{Kind: kind, Name: "a", Data: []byte("a")})
	}
	return l
}

// TestLongOfWays: against the plain reckoning, the sum of each event's Put, and of each piece of a way.
func TestLongOfWays(t *testing.T) {
	for _, a := range right() {
		for _, b := range right() {
			l := diff.Way(a, b)
			isLong(t, plainLong(l), l...)
			half := len(l) / 2
			if diff.Long(l[:half])+diff.Long(l[half:]) != plainLong(l) {
				t.Errorf("P15.2: Long of two pieces of the Way from %s to %s", tell(a), tell(b))
			}
			n := 0
			for _, e := range l {
				b, _ := event.Put(e)
				n += len(b)
			}
			isLong(t, n, l...)
		}
	}
}

// TestLongOfAnyEvents: lists in which each number stands at an edge, or beyond it.
func TestLongOfAnyEvents(t *testing.T) {
	r := rand.New(rand.NewSource(152))
	numbers := []int{math.MinInt, -1, 0, 0, 0, 1, 127, 128, 448, 511, 512, 513, 1 << 32, math.MaxInt}
	names := []string{"", "", "a", "abcdefghijkl", "abcdefghijklm", "A"}
	for range 3000 {
		var l []api.Event
		for range r.Intn(12) {
			e := api.Event{Kind: r.Intn(10), Off: numbers[r.Intn(len(numbers))], Len: numbers[r.Intn(len(numbers))]}
			if r.Intn(3) == 0 {
				e = api.Event{Kind: api.Write, Off: r.Intn(513), Data: []byte(long(r.Intn(67)))}
			}
			if e.Kind == api.Resize || e.Kind == api.Flush || e.Kind > api.Zero && r.Intn(2) == 0 {
				e.Off = 0
			}
			if e.Kind > api.Resize && r.Intn(4) > 0 {
				e.Len, e.Name = 0, names[r.Intn(len(names))]
			}
			l = append(l, e)
		}
		isLong(t, plainLong(l), l...)
	}
}

// P15.3: what follows

func TestEachWayLeadsThere(t *testing.T) {
	for _, a := range right() {
		for _, b := range right() {
			leads(t, a, b)
		}
	}
}

// grown is a state that events come to, drawn by r; most of its snapshots are near one another in bytes.
func grown(r *rand.Rand) api.State {
	s := image(drawn(r, 512))
	for range r.Intn(12) {
		name := string(rune('a' + r.Intn(9)))
		switch r.Intn(6) {
		case 0:
			s = model.Fold(s, unsnap(name))
		case 1:
			s = model.Fold(s, roll(name))
		case 2:
			s = model.Fold(s, resize(r.Intn(513)))
		case 3:
			s = model.Fold(s, write(r.Intn(513), long(1+r.Intn(64))))
		default:
			s = model.Fold(s, snap(name))
		}
	}
	return s
}

func TestWaysOfAnyStates(t *testing.T) {
	r := rand.New(rand.NewSource(153))
	for range 1500 {
		a, b := grown(r), grown(r)
		switch r.Intn(3) {
		case 0:
			// b's first snapshots are a's, and its others are of other names.
			b.Snaps = slices.DeleteFunc(b.Snaps, func(o api.Old) bool { return o.Name <= "d" })
			a.Snaps = slices.DeleteFunc(a.Snaps, func(o api.Old) bool { return o.Name > "d" })
			b.Snaps = append(copied(a).Snaps[:r.Intn(len(a.Snaps)+1)], b.Snaps...)
			b.Snaps = b.Snaps[:min(len(b.Snaps), 8)]
		case 1:
			b = model.Fold(a, write(0, "X"), snap("new"), unsnap("a"), resize(9), snap("newer"))
		}
		isWay(t, a, b, plainWay(a, b)...)
		leads(t, a, b)
		leads(t, b, a)
	}
}

// TestEachEventIsNeeded: without any one of its events the way leads elsewhere.
func TestEachEventIsNeeded(t *testing.T) {
	r := rand.New(rand.NewSource(154))
	for range 300 {
		a, b := drawn(r, 512), drawn(r, 512)
		l := diff.Bytes([]byte(a), []byte(b))
		for i := range l {
			short := slices.Delete(slices.Clone(l), i, i+1)
			if model.Same(model.Fold(image(a), short...), image(b)) {
				t.Errorf("P15.1: event %d isn't needed: %s", i, deeds(l))
			}
		}
	}
}

// The rules that hold everywhere

func TestNothingPanics(t *testing.T) {
	states := append(right(), crooked()...)
	for _, a := range states {
		for _, b := range states {
			diff.Way(a, b)
			diff.Bytes(a.Data, b.Data)
		}
	}
	big := image(long(1<<20), rows(1000)...)
	diff.Way(big, big)
	diff.Way(big, image("abcd"))
	diff.Way(image("abcd"), big)
	diff.Bytes(big.Data, big.Data)
	numbers := []int{math.MinInt, math.MinInt + 1, math.MinInt32, -513, -1, 0, 1, 8, 63, 64, 65, 511, 512, 513, math.MaxInt32, 1 << 32, 1 << 62, math.MaxInt - 1, math.MaxInt}
	var l []api.Event
	for _, kind := range append(numbers, 1, 2, 3, 4, 5, 6, 7, 8, 9, 255, 256, 257) {
		for _, off := range numbers {
			for _, n := range numbers {
				l = append(l, api.Event{Kind: kind, Off: off, Len: n}, api.Event{Kind: kind, Off: off, Len: n, Data: []byte("a"), Name: "a"})
			}
			l = append(l, api.Event{Kind: kind, Off: off, Data: []byte(long(64))}, api.Event{Kind: kind, Len: off, Name: "\xff"}, api.Event{Kind: kind, Name: strings.Repeat("é", 1<<8), Data: make([]byte, 1<<8)})
		}
	}
	isLong(t, plainLong(l), l...)
}

func TestTheGreatestAndTheLeastInEveryPlace(t *testing.T) {
	for _, n := range []int{math.MinInt, math.MaxInt} {
		for _, e := range []api.Event{
			{Kind: n}, {Kind: n, Off: n, Len: n, Data: []byte("a"), Name: "p"}, write(n, "a"), write(n, ""), {Kind: api.Write, Len: n, Data: []byte("a")},
			discard(n, 1), discard(1, n), discard(n, n), discard(n, -1-n), zero(n, 1), zero(1, n), zero(n, n), zero(n, -1-n),
			resize(n), {Kind: api.Resize, Off: n, Len: 1}, {Kind: api.Flush, Off: n}, {Kind: api.Flush, Len: n},
			{Kind: api.Snap, Name: "p", Off: n}, {Kind: api.Snap, Name: "p", Len: n}, {Kind: api.Unsnap, Name: "p", Off: n}, {Kind: api.Unsnap, Name: "p", Len: n}, {Kind: api.Roll, Name: "p", Off: n}, {Kind: api.Roll, Name: "p", Len: n},
		} {
			isLong(t, 0, e)
			isLong(t, 6, write(0, "abc"), e, flush())
		}
	}
}

func TestLongRows(t *testing.T) {
	var l []api.Event
	for range 20000 {
		l = append(l, write(200, "abc"), api.Event{}, snap("ab"), resize(-1), flush())
	}
	isLong(t, 20000*(6+3+1), l...)
	isWay(t, image("abcd", rows(2000)...), image("abcd", rows(2000)...))
	isBytes(t, long(1<<20), long(1<<20)+"x")
}

// spare is b with room behind it in which other things lie.
func spare(b []byte) []byte {
	return append(append([]byte{}, b...), "spare room, of 600 bytes at least "+long(600)...)[:len(b)]
}

// roomy is s in memory of its own, with spare room behind each of its lists in which other things lie.
func roomy(s api.State) api.State {
	out := api.State{Data: spare(s.Data)}
	for _, o := range s.Snaps {
		out.Snaps = append(out.Snaps, api.Old{Name: o.Name, Data: spare(o.Data)})
	}
	out.Snaps = append(out.Snaps, api.Old{Name: "spare", Data: []byte("spare")}, api.Old{Name: "a", Data: []byte("spare")}, api.Old{})[:len(s.Snaps)]
	return out
}

// whole is s with its spare room.
func whole(s api.State) api.State {
	all := api.State{Data: s.Data[:cap(s.Data)]}
	for _, o := range s.Snaps[:cap(s.Snaps)] {
		all.Snaps = append(all.Snaps, api.Old{Name: o.Name, Data: o.Data[:cap(o.Data)]})
	}
	return copied(all)
}

// spoilBytes writes over all of b, its spare room too.
func spoilBytes(b []byte) {
	for i := range b[:cap(b)] {
		b[:cap(b)][i] ^= 0x55
	}
}

// spoil writes over all lists of l, their spare room too.
func spoil(l []api.Event) {
	for i, e := range l[:cap(l)] {
		spoilBytes(e.Data)
		l[:cap(l)][i] = api.Event{Kind: 77, Name: "spoilt"}
	}
}

func TestNothingHandedInIsChanged(t *testing.T) {
	states := append(right(), crooked()...)
	for i, s := range states {
		for _, other := range states[i:] {
			a, b := roomy(s), roomy(other)
			wasA, wasB := whole(a), whole(b)
			diff.Way(a, b)
			diff.Way(b, a)
			diff.Way(a, a)
			diff.Bytes(a.Data, b.Data)
			diff.Bytes(b.Data, a.Data)
			diff.Bytes(a.Data, a.Data)
			if !model.Same(whole(a), wasA) || !model.Same(whole(b), wasB) {
				t.Fatalf("R2: %s, %s or their room was changed", tell(s), tell(other))
			}
		}
	}
	l := append([]api.Event{{Kind: api.Write, Data: spare([]byte("abc"))}, flush(), snap("a")}, wrong()...)
	room := append(l, write(1, "spare"), flush())[:len(l)]
	was := kept(room[:cap(room)])
	isLong(t, 8, room...)
	if !same(room[:cap(room)], was) || string(room[0].Data[:9]) != "abcspare " {
		t.Error("R2: Long changed what was handed in or its room")
	}
}

func TestAnswersAreNewMemory(t *testing.T) {
	for _, x := range right() {
		for _, y := range right() {
			for name, do := range map[string]func(a, b api.State) []api.Event{
				"Way":   diff.Way,
				"Bytes": func(a, b api.State) []api.Event { return diff.Bytes(a.Data, b.Data) },
			} {
				a, b := roomy(x), roomy(y)
				wasA, wasB := whole(a), whole(b)
				one, two := do(a, b), do(a, b)
				want := kept(two)
				spoil(one)
				if !model.Same(whole(a), wasA) || !model.Same(whole(b), wasB) || !same(two, want) {
					t.Fatalf("R2: the answer of %s of %s, %s shares memory", name, tell(x), tell(y))
				}
				for _, s := range []api.State{a, b} {
					spoilBytes(s.Data)
					for _, o := range s.Snaps {
						spoilBytes(o.Data)
					}
				}
				if !same(two, want) {
					t.Fatalf("R2: the answer of %s of %s, %s shares memory with what was handed in", name, tell(x), tell(y))
				}
			}
		}
	}
}

// TestNoTwoListsOfOneAnswerShareMemory: each Data of an answer is spoilt alone, its spare room too; the others stay. So it is with two pieces of one run, and with bytes that are laid twice.
func TestNoTwoListsOfOneAnswerShareMemory(t *testing.T) {
	l := [][]api.Event{diff.Bytes(nil, []byte(long(512))), diff.Bytes([]byte(long(512)), []byte(other(512)))}
	for _, a := range right() {
		for _, b := range right() {
			l = append(l, diff.Way(a, b))
		}
	}
	l = append(l, diff.Way(image("ab"), image("ab", "s", "XY", "t", "ab", "u", "XY", "v", "ab")))
	for _, got := range l {
		for i := range got {
			want := kept(got)
			spoilBytes(got[i].Data)
			want[i].Data = got[i].Data
			if !same(got, want) {
				t.Fatalf("R2: event %d shares memory with another one: %s", i, deeds(want))
			}
		}
	}
}

// TestSpareRoomIsNotRead: what lies behind a list's length is none of it.
func TestSpareRoomIsNotRead(t *testing.T) {
	if l := diff.Bytes([]byte("abcd")[:2], []byte("abcd")); !same(l, []api.Event{resize(4), write(2, "cd")}) {
		t.Errorf("R5: Bytes reads a's spare room: %s", deeds(l))
	}
	if l := diff.Bytes([]byte("abcd"), []byte("abXY")[:2]); !same(l, []api.Event{resize(2)}) {
		t.Errorf("R5: Bytes reads b's spare room: %s", deeds(l))
	}
	if l := diff.Bytes(make([]byte, 600)[:512], []byte(long(600))[:512]); !same(l, plainBytes(noughts(512), long(512))) {
		t.Errorf("R5: Bytes of MaxSize bytes with room behind them: %s", deeds(l))
	}
	for _, x := range append(right(), crooked()...) {
		for _, y := range append(right(), crooked()...) {
			if a, b := diff.Way(x, y), diff.Way(roomy(x), roomy(y)); !same(a, b) {
				t.Errorf("R5: Way of %s, %s hangs on spare room: %s, %s", tell(x), tell(y), deeds(a), deeds(b))
			}
		}
	}
	l := []api.Event{flush(), write(0, "abc"), flush()}
	if diff.Long(l[:1]) != 1 || diff.Long(l[:0]) != 0 {
		t.Error("R5: Long reads spare room")
	}
	isLong(t, 3, api.Event{Kind: api.Write, Data: []byte("XYZ")[:1]})
	isLong(t, 0, api.Event{Kind: api.Write, Data: []byte("XYZ")[:0]})
}

// TestNilAndEmpty (R4): bytes, snapshots, events, and an event's Data.
func TestNilAndEmpty(t *testing.T) {
	empty := []byte{}
	for _, l := range [][]api.Event{diff.Bytes(nil, nil), diff.Bytes(nil, empty), diff.Bytes(empty, nil), diff.Bytes(empty, empty)} {
		if len(l) > 0 {
			t.Errorf("R4: Bytes of none: %s", deeds(l))
		}
	}
	if a, b := diff.Bytes(nil, []byte("ab")), diff.Bytes(empty, []byte("ab")); !same(a, b) || len(a) != 2 {
		t.Errorf("R4: Bytes of none, 2 bytes: %s, %s", deeds(a), deeds(b))
	}
	if a, b := diff.Bytes([]byte("ab"), nil), diff.Bytes([]byte("ab"), empty); !same(a, b) || len(a) != 1 {
		t.Errorf("R4: Bytes of 2 bytes, none: %s, %s", deeds(a), deeds(b))
	}
	nils := api.State{Snaps: []api.Old{{Name: "a"}}}
	empties := api.State{Data: empty, Snaps: []api.Old{{Name: "a", Data: empty}}}
	isWay(t, nils, empties)
	isWay(t, empties, nils)
	isWay(t, api.State{}, api.State{Data: empty, Snaps: []api.Old{}})
	isWay(t, api.State{Data: empty, Snaps: []api.Old{}}, api.State{})
	for _, s := range right() {
		if !same(diff.Way(nils, s), diff.Way(empties, s)) || !same(diff.Way(s, nils), diff.Way(s, empties)) {
			t.Errorf("R4: Way to or from %s", tell(s))
		}
	}
	isLong(t, 0, []api.Event{}...)
	isLong(t, 1, api.Event{Kind: api.Flush, Data: empty})
	isLong(t, 2, api.Event{Kind: api.Resize, Len: 1, Data: empty})
	isLong(t, 0, api.Event{Kind: api.Write, Data: empty})
	isLong(t, 0, api.Event{Kind: api.Write})
}

func TestSameAgain(t *testing.T) {
	a, b := image("abcd", rows(8)...), image(long(300), full("f", "x")...)
	want := diff.Way(a, b)
	n := diff.Long(want)
	for _, s := range append(right(), crooked()...) {
		diff.Way(s, a)
		diff.Way(b, s)
		diff.Bytes(s.Data, b.Data)
	}
	for range 20 {
		if got := diff.Way(a, b); !same(got, want) || diff.Long(got) != n {
			t.Fatalf("R4: Way again: %s, not %s", deeds(got), deeds(want))
		}
	}
}
