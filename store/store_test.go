package store_test

import (
	"bytes"
	"fmt"
	"math"
	"math/rand"
	"slices"
	"strconv"
	"strings"
	"testing"

	"hectograph/api"
	"hectograph/store"
)

var (
	a  = api.Key{Kind: 1}
	b  = api.Key{Kind: 1, Num: 2}
	c  = api.Key{Kind: 2, Img: 1}
	no = api.Key{Kind: 9, Num: 9}
)

// wrong is keys that may name nothing: each number below its least, one beyond its greatest, and far off.
func wrong() []api.Key {
	l := []api.Key{{}, {Num: 1}, {Kind: -1}, {Kind: 256}, {Kind: math.MaxInt}, {Kind: math.MinInt}}
	for _, n := range []int{-1, 256, math.MaxInt, math.MinInt} {
		l = append(l, api.Key{Kind: 1, Img: n})
	}
	for _, n := range []int{-1, 1<<30 + 1, math.MaxInt, math.MinInt} {
		l = append(l, api.Key{Kind: 1, Num: n}, api.Key{Kind: 1, Snap: n})
	}
	return l
}

// made is a store of that room with an object a of those bytes, dry.
func made(t *testing.T, room int, has string) *store.Store {
	t.Helper()
	s := store.New(room)
	is(t, "made", s.Make(a), api.OK)
	is(t, "made", s.Write(a, 0, []byte(has)), api.OK)
	is(t, "made", s.Barrier(), api.OK)
	return s
}

func is[T comparable](t *testing.T, what string, got, want T) {
	t.Helper()
	if got != want {
		t.Errorf("%s: %v, must be %v", what, got, want)
	}
}

// has asks for an object's bytes; "-": it isn't there.
func has(t *testing.T, what string, s *store.Store, k api.Key, want string) {
	t.Helper()
	got := "-"
	if n, why := s.Size(k); why == api.OK {
		p, why := s.Read(k, 0, n)
		is(t, what+": Read of all", why, api.OK)
		got = string(p)
	}
	is(t, what, strconv.Quote(got), strconv.Quote(want))
}

// hasAttr asks for an object's attribute; "-": it isn't there.
func hasAttr(t *testing.T, what string, s *store.Store, k api.Key, name, want string) {
	t.Helper()
	v, why := s.Attr(k, name)
	got := string(v)
	if why != api.OK {
		is(t, what+": Attr's refusal", why, api.ErrNone)
		got = "-"
	}
	is(t, what, strconv.Quote(got), strconv.Quote(want))
}

// deeds is all deeds that name a key, of what may be handed in.
func deeds(s *store.Store, k api.Key) map[string]func() api.Errno {
	return map[string]func() api.Errno{
		"Make":   func() api.Errno { return s.Make(k) },
		"Write":  func() api.Errno { return s.Write(k, 0, []byte("x")) },
		"Append": func() api.Errno { return s.Append(k, []byte("x")) },
		"Trim":   func() api.Errno { return s.Trim(k, 0) },
		"Drop":   func() api.Errno { return s.Drop(k) },
		"Set":    func() api.Errno { return s.Set(k, "n", []byte("v")) },
	}
}

// asks is all calls that name a key and only read, and deeds with wrong things beside the key.
func asks(s *store.Store, k api.Key) map[string]func() api.Errno {
	return map[string]func() api.Errno{
		"Read":                 func() api.Errno { _, why := s.Read(k, 0, 1); return why },
		"Read beyond":          func() api.Errno { _, why := s.Read(k, -1, -1); return why },
		"Size":                 func() api.Errno { _, why := s.Size(k); return why },
		"Attr":                 func() api.Errno { _, why := s.Attr(k, "n"); return why },
		"Attr of no name":      func() api.Errno { _, why := s.Attr(k, ""); return why },
		"Write below 0":        func() api.Errno { return s.Write(k, -1, nil) },
		"Append of too much":   func() api.Errno { return s.Append(k, make([]byte, api.MaxObject+1)) },
		"Set of no name":       func() api.Errno { return s.Set(k, "", []byte("v")) },
		"Set of too long a v":  func() api.Errno { return s.Set(k, "n", make([]byte, 4097)) },
		"Set of too long both": func() api.Errno { return s.Set(k, strings.Repeat("n", 21), make([]byte, 4097)) },
	}
}

// P3.1

func TestNew(t *testing.T) {
	for _, x := range []struct{ room, want int }{
		{math.MinInt, 0}, {-1, 0}, {0, 0}, {1, 1}, {777, 777}, {api.MaxRoom - 1, api.MaxRoom - 1},
		{api.MaxRoom, api.MaxRoom}, {api.MaxRoom + 1, api.MaxRoom}, {math.MaxInt, api.MaxRoom},
	} {
		s := store.New(x.room)
		is(t, fmt.Sprint("P3.1: Left of New ", x.room), s.Left(), x.want)
		is(t, "P3.1: New has power", s.On(), true)
		is(t, "P3.1: New has no bytes", s.Used(), 0)
		is(t, "P3.1: New has no deeds", s.Deeds()+s.Wet(), 0)
		is(t, "P3.1: New has no objects", len(s.Keys(1, 0)), 0)
	}
}

func TestRoomOfNought(t *testing.T) {
	for _, room := range []int{0, -5} {
		s := store.New(room)
		is(t, "P3.1: Make takes no room", s.Make(a), api.OK)
		is(t, "P3.1: Write of no bytes takes no room", s.Write(a, 9, nil), api.OK)
		is(t, "P3.1: Write", s.Write(a, 0, []byte("x")), api.ErrFull)
		is(t, "P3.1: Append", s.Append(a, []byte("x")), api.ErrFull)
		is(t, "P3.1: Set", s.Set(a, "n", []byte("v")), api.ErrFull)
		is(t, "P3.1: Set of no v takes no room", s.Set(a, "n", nil), api.OK)
		has(t, "P3.1: a room of 0", s, a, "")
	}
}

func TestRight(t *testing.T) {
	for _, k := range []api.Key{{Kind: 1}, {Kind: 255}, {Kind: 1, Img: 255}, {Kind: 1, Num: 1 << 30}, {Kind: 1, Snap: 1 << 30}, {Kind: 255, Img: 255, Num: 1 << 30, Snap: 1 << 30}} {
		is(t, fmt.Sprint("P3.1: Right ", k), store.Right(k), true)
		s := store.New(10)
		is(t, fmt.Sprint("P3.1: Make ", k), s.Make(k), api.OK)
		is(t, fmt.Sprint("P3.1: Append ", k), s.Append(k, []byte("x")), api.OK)
		has(t, "P3.1: a right key", s, k, "x")
	}
	for _, k := range wrong() {
		is(t, fmt.Sprint("P3.1: Right ", k), store.Right(k), false)
		s := made(t, 100, "x")
		for what, call := range deeds(s, k) {
			is(t, fmt.Sprint("P3.1: ", what, " ", k), call(), api.ErrArg)
		}
		for what, call := range asks(s, k) {
			is(t, fmt.Sprint("P3.1, P3.2: ", what, " ", k), call(), api.ErrArg)
		}
		is(t, "P3.3: a refused deed isn't wet", s.Wet(), 0)
		is(t, "P3.4: Rot of a wrong key", s.Rot(k, 0, 1), false)
	}
}

func TestNoObject(t *testing.T) {
	s := made(t, 100, "x")
	for what, call := range deeds(s, no) {
		if what != "Make" {
			is(t, "P3.1: none there: "+what, call(), api.ErrNone)
		}
	}
	for what, call := range asks(s, no) {
		is(t, "P3.1, P3.2: none there, ahead of all else: "+what, call(), api.ErrNone)
	}
	is(t, "P3.4: Rot of none", s.Rot(no, 0, 1), false)
	is(t, "P3.3: a refused deed is none", s.Deeds(), 3)
}

func TestWithoutPower(t *testing.T) {
	s := made(t, 100, "x")
	s.Set(a, "n", []byte("v"))
	s.Barrier()
	s.Fall(nil, 0)
	for _, k := range append(wrong(), a, no) {
		for what, call := range deeds(s, k) {
			is(t, fmt.Sprint("P3.1: without power: ", what, " ", k), call(), api.ErrOff)
		}
		for what, call := range asks(s, k) {
			is(t, fmt.Sprint("P3.1, P3.2: without power: ", what, " ", k), call(), api.ErrOff)
		}
	}
	is(t, "P3.1: without power: Barrier", s.Barrier(), api.ErrOff)
	is(t, "P3.2: without power: Keys", len(s.Keys(1, 0)), 0)
	is(t, "P3.2: without power: Used", s.Used(), 3)
	is(t, "P3.2: without power: Left", s.Left(), 97)
	is(t, "P3.3: without power: Fall", s.Fall([]int{1}, 1), 0)
	is(t, "P3.4: without power: Rot", s.Rot(a, 0, 1), false)
	is(t, "P3.4: without power: On", s.On(), false)
	is(t, "P3.3: without power: Deeds", s.Deeds(), 5)
	s.Power()
	has(t, "P3.1: nothing was done without power", s, a, "x")
	hasAttr(t, "P3.1: nothing was done without power", s, a, "n", "v")
}

func TestMake(t *testing.T) {
	s := store.New(api.MaxRoom)
	is(t, "P3.1: Make", s.Make(a), api.OK)
	has(t, "P3.1: no bytes", s, a, "")
	is(t, "P3.1: Make again", s.Make(a), api.ErrThere)
	s.Append(a, []byte("abc"))
	s.Set(a, "n", []byte("v"))
	is(t, "P3.1: Make again", s.Make(a), api.ErrThere)
	has(t, "P3.1: a refused Make", s, a, "abc")
	s.Drop(a)
	is(t, "P3.1: Make behind Drop", s.Make(a), api.OK)
	has(t, "P3.1: no bytes behind Drop", s, a, "")
	hasAttr(t, "P3.1: no attributes behind Drop", s, a, "n", "-")
	for n := 1; n < api.MaxThings; n++ {
		if why := s.Make(api.Key{Kind: 1 + n%255, Img: n % 256, Num: n, Snap: 5}); why != api.OK {
			t.Fatalf("P3.1: Make of object %d: %v", n+1, why)
		}
	}
	is(t, "P3.1: Make beyond MaxThings", s.Make(no), api.ErrFull)
	is(t, "P3.1: there ahead of full", s.Make(a), api.ErrThere)
	is(t, "P3.1: a wrong key ahead of full", s.Make(api.Key{}), api.ErrArg)
	has(t, "P3.1: a refused Make", s, no, "-")
	is(t, "P3.1: Drop of one", s.Drop(a), api.OK)
	is(t, "P3.1: Make of one behind it", s.Make(no), api.OK)
	is(t, "P3.1: Make beyond MaxThings", s.Make(a), api.ErrFull)
}

func TestWrite(t *testing.T) {
	for _, x := range []struct {
		off  int
		p    string
		why  api.Errno
		want string
	}{
		{0, "", 0, "abcd"}, {0, "xy", 0, "xycd"}, {2, "xy", 0, "abxy"}, {3, "xy", 0, "abcxy"}, {4, "xy", 0, "abcdxy"},
		{6, "xy", 0, "abcd\x00\x00xy"}, {4, "", 0, "abcd"}, {5, "", 0, "abcd"}, {api.MaxObject, "", 0, "abcd"},
		{0, "uvwxyz", 0, "uvwxyz"}, {14, "123456", 0, "abcd" + strings.Repeat("\x00", 10) + "123456"},
		{15, "123456", api.ErrFull, "abcd"}, {20, "x", api.ErrFull, "abcd"}, {19, "x", 0, "abcd" + strings.Repeat("\x00", 15) + "x"},
		{-1, "", api.ErrRange, "abcd"}, {-1, "xyz", api.ErrRange, "abcd"}, {math.MinInt, "x", api.ErrRange, "abcd"},
		{api.MaxObject + 1, "", api.ErrRange, "abcd"}, {api.MaxObject, "x", api.ErrRange, "abcd"}, {api.MaxObject - 1, "xy", api.ErrRange, "abcd"},
		{api.MaxObject - 1, "x", api.ErrFull, "abcd"}, {math.MaxInt, "", api.ErrRange, "abcd"}, {math.MaxInt, "x", api.ErrRange, "abcd"}, {math.MaxInt - 1, "xy", api.ErrRange, "abcd"},
	} {
		s := made(t, 20, "abcd")
		what := fmt.Sprintf("P3.1: Write %q at %d", x.p, x.off)
		is(t, what, s.Write(a, x.off, []byte(x.p)), x.why)
		has(t, what, s, a, x.want)
		is(t, what+": Used", s.Used(), len(x.want))
		is(t, what+": Left", s.Left(), 20-len(x.want))
		wet := 1
		if x.why != api.OK {
			wet = 0
		}
		is(t, what+": Wet", s.Wet(), wet)
		is(t, what+": Deeds", s.Deeds(), 3+wet)
	}
}

func TestWriteToTheMost(t *testing.T) {
	s := store.New(api.MaxRoom)
	s.Make(a)
	full := bytes.Repeat([]byte("x"), api.MaxObject)
	is(t, "P3.1: Write of MaxObject and one", s.Write(a, 0, append(full, 'y')), api.ErrRange)
	is(t, "P3.1: Write of MaxObject", s.Write(a, 0, full), api.OK)
	is(t, "P3.1: Write over the last byte", s.Write(a, api.MaxObject-1, []byte("z")), api.OK)
	is(t, "P3.1: Write of one beyond", s.Write(a, api.MaxObject-1, []byte("zz")), api.ErrRange)
	is(t, "P3.1: Append beyond", s.Append(a, []byte("z")), api.ErrRange)
	is(t, "P3.1: Append of no bytes", s.Append(a, nil), api.OK)
	full[api.MaxObject-1] = 'z'
	has(t, "P3.1: MaxObject", s, a, string(full))
	s.Trim(a, api.MaxObject-3)
	is(t, "P3.1: Append beyond", s.Append(a, []byte("1234")), api.ErrRange)
	is(t, "P3.1: Append to MaxObject", s.Append(a, []byte("123")), api.OK)
	s.Make(b)
	is(t, "P3.1: Write of the last byte alone", s.Write(b, api.MaxObject-1, []byte("z")), api.OK)
	has(t, "P3.1: noughts up to it", s, b, strings.Repeat("\x00", api.MaxObject-1)+"z")
}

func TestRoomRunsOut(t *testing.T) {
	s := made(t, 10, "abcd")
	s.Make(b)
	is(t, "P3.1: one more than is left", s.Append(b, []byte("1234567")), api.ErrFull)
	is(t, "P3.1: just as many as are left", s.Append(b, []byte("123456")), api.OK)
	is(t, "P3.2: nothing is left", s.Left(), 0)
	is(t, "P3.1: one more", s.Append(a, []byte("x")), api.ErrFull)
	is(t, "P3.1: an attribute", s.Set(a, "n", []byte("v")), api.ErrFull)
	is(t, "P3.1: in place", s.Write(a, 1, []byte("xyz")), api.OK)
	is(t, "P3.1: in place, and one more", s.Write(a, 1, []byte("xyz!")), api.ErrFull)
	has(t, "P3.1: a refused Write", s, a, "axyz")
	s.Trim(b, 5)
	is(t, "P3.1: what Trim gave back", s.Append(a, []byte("x")), api.OK)
	s.Drop(b)
	is(t, "P3.1: what Drop gave back", s.Left(), 5)
	is(t, "P3.1: range ahead of full", s.Write(a, api.MaxObject, []byte("x")), api.ErrRange)
}

func TestAppend(t *testing.T) {
	s := made(t, 100, "")
	for _, p := range []string{"ab", "", "c", "def"} {
		is(t, "P3.1: Append", s.Append(a, []byte(p)), api.OK)
	}
	has(t, "P3.1: Append", s, a, "abcdef")
	s.Trim(a, 3)
	s.Append(a, []byte("x"))
	has(t, "P3.1: Append behind Trim", s, a, "abcx")
	s.Write(a, 6, []byte("y"))
	s.Append(a, []byte("z"))
	has(t, "P3.1: Append behind noughts", s, a, "abcx\x00\x00yz")
}

func TestTrim(t *testing.T) {
	for _, x := range []struct {
		size int
		want string
	}{{4, "abcd"}, {5, "abcd"}, {math.MaxInt, "abcd"}, {3, "abc"}, {1, "a"}, {0, ""}, {-1, ""}, {math.MinInt, ""}} {
		s := made(t, 10, "abcd")
		is(t, fmt.Sprint("P3.1: Trim to ", x.size), s.Trim(a, x.size), api.OK)
		has(t, fmt.Sprint("P3.1: Trim to ", x.size), s, a, x.want)
		is(t, "P3.2: Used behind Trim", s.Used(), len(x.want))
		is(t, "P3.3: Trim is wet", s.Wet(), 1)
		s.Write(a, 6, []byte("x"))
		has(t, "P3.1: noughts where something was", s, a, x.want+strings.Repeat("\x00", 6-len(x.want))+"x")
	}
}

func TestDrop(t *testing.T) {
	s := made(t, 100, "abcd")
	s.Set(a, "n", []byte("v"))
	s.Make(b)
	s.Append(b, []byte("xy"))
	is(t, "P3.1: Drop", s.Drop(a), api.OK)
	has(t, "P3.1: Drop", s, a, "-")
	has(t, "P3.1: Drop of another", s, b, "xy")
	is(t, "P3.2: Used behind Drop", s.Used(), 2)
	is(t, "P3.1: Drop again", s.Drop(a), api.ErrNone)
	is(t, "P3.1: Write behind Drop", s.Write(a, 0, nil), api.ErrNone)
	is(t, "P3.2: Keys behind Drop", fmt.Sprint(s.Keys(1, 0)), fmt.Sprint([]api.Key{b}))
}

func TestSet(t *testing.T) {
	for _, x := range []struct {
		name, v int
		why     api.Errno
	}{
		{0, 1, api.ErrArg}, {0, 0, api.ErrArg}, {1, 0, 0}, {1, 1, 0}, {20, 1, 0}, {20, 0, 0}, {21, 1, api.ErrArg}, {21, 0, api.ErrArg}, {500, 1, api.ErrArg},
		{1, 4095, 0}, {1, 4096, 0}, {1, 4097, api.ErrArg}, {20, 4096, 0}, {0, 4097, api.ErrArg}, {21, 4097, api.ErrArg}, {1, 99999, api.ErrArg},
	} {
		s := made(t, 5000, "abc")
		name, v := strings.Repeat("n", x.name), bytes.Repeat([]byte("v"), x.v)
		what := fmt.Sprintf("P3.1: Set of a name of %d, a value of %d", x.name, x.v)
		is(t, what, s.Set(a, name, v), x.why)
		if x.why == api.OK && x.v > 0 {
			hasAttr(t, what, s, a, name, string(v))
			is(t, what+": Used", s.Used(), 3+x.name+x.v)
		} else {
			hasAttr(t, what, s, a, name, "-")
			is(t, what+": Used", s.Used(), 3)
		}
		has(t, what, s, a, "abc")
	}
}

func TestSetAgain(t *testing.T) {
	s := made(t, 20, "ab")
	name := "\x00\xff é"
	is(t, "P3.1: Set", s.Set(a, name, []byte("123")), api.OK)
	is(t, "P3.2: Used", s.Used(), 2+len(name)+3)
	is(t, "P3.1: Set to less", s.Set(a, name, []byte("4")), api.OK)
	hasAttr(t, "P3.1: Set again", s, a, name, "4")
	is(t, "P3.2: Used", s.Used(), 2+len(name)+1)
	is(t, "P3.1: Set to one more than is left", s.Set(a, name, make([]byte, s.Left()+2)), api.ErrFull)
	hasAttr(t, "P3.1: a refused Set", s, a, name, "4")
	is(t, "P3.1: Set to all that is left", s.Set(a, name, make([]byte, s.Left()+1)), api.OK)
	is(t, "P3.2: Left", s.Left(), 0)
	is(t, "P3.1: Set of as much", s.Set(a, name, bytes.Repeat([]byte("x"), 18-len(name))), api.OK)
	is(t, "P3.1: an argument ahead of full", s.Set(a, "", make([]byte, 99)), api.ErrArg)
	is(t, "P3.1: Set to nothing", s.Set(a, name, nil), api.OK)
	is(t, "P3.2: Used", s.Used(), 2)
	wet := s.Wet()
	is(t, "P3.1: gone already", s.Set(a, name, []byte{}), api.OK)
	is(t, "P3.3: gone already, a deed too", s.Wet(), wet+1)
	hasAttr(t, "P3.1: gone", s, a, name, "-")
	is(t, "P3.1: all of it is left again", s.Set(a, "n", make([]byte, 17)), api.OK)
	is(t, "P3.1: one more isn't", s.Set(a, "m", []byte("v")), api.ErrFull)
}

func TestSetOfMany(t *testing.T) {
	s := made(t, 1000, "ab")
	s.Make(b)
	for i := range 26 {
		name := string(rune('a' + i))
		is(t, "P3.1: Set", s.Set(a, name, []byte(name+name)), api.OK)
		is(t, "P3.1: Set of another object", s.Set(b, name, []byte("b"+name)), api.OK)
	}
	is(t, "P3.2: Used of many attributes", s.Used(), 2+2*26*3)
	for i := range 26 {
		name := string(rune('a' + i))
		hasAttr(t, "P3.2: Attr", s, a, name, name+name)
		hasAttr(t, "P3.2: Attr", s, b, name, "b"+name)
	}
	s.Drop(a)
	is(t, "P3.2: Used behind Drop", s.Used(), 26*3)
}

// P3.2

func TestRead(t *testing.T) {
	s := made(t, 100, "abcd")
	for _, x := range []struct {
		off, n int
		want   string
		why    api.Errno
	}{
		{0, 0, "", 0}, {0, 4, "abcd", 0}, {0, 1, "a", 0}, {1, 2, "bc", 0}, {3, 1, "d", 0}, {3, 2, "d", 0}, {0, math.MaxInt, "abcd", 0}, {3, math.MaxInt, "d", 0},
		{4, 0, "", 0}, {4, 1, "", 0}, {4, math.MaxInt, "", 0}, {5, 0, "", api.ErrRange}, {5, 1, "", api.ErrRange}, {math.MaxInt, math.MaxInt, "", api.ErrRange},
		{-1, 0, "", api.ErrRange}, {-1, 5, "", api.ErrRange}, {math.MinInt, 1, "", api.ErrRange}, {0, -1, "", api.ErrRange}, {4, -1, "", api.ErrRange}, {0, math.MinInt, "", api.ErrRange},
	} {
		p, why := s.Read(a, x.off, x.n)
		is(t, fmt.Sprintf("P3.2: Read %d %d", x.off, x.n), why, x.why)
		is(t, fmt.Sprintf("P3.2: Read %d %d", x.off, x.n), string(p), x.want)
	}
	is(t, "R7: a Read is no deed", s.Deeds(), 3)
}

func TestReadOfNoBytes(t *testing.T) {
	s := made(t, 100, "")
	p, why := s.Read(a, 0, 9)
	is(t, "P3.2: Read of an empty object", fmt.Sprint(len(p), why), fmt.Sprint(0, api.OK))
	_, why = s.Read(a, 1, 0)
	is(t, "P3.2: Read beyond an empty object", why, api.ErrRange)
}

func TestSize(t *testing.T) {
	s := store.New(100)
	n, why := s.Size(a)
	is(t, "P3.2: Size of none", fmt.Sprint(n, int(why)), "0 4")
	s.Make(a)
	for i, want := range []int{0, 3, 10, 2} {
		switch i {
		case 1:
			s.Append(a, []byte("abc"))
		case 2:
			s.Write(a, 9, []byte("x"))
		case 3:
			s.Trim(a, 2)
		}
		n, why := s.Size(a)
		is(t, "P3.2: Size", fmt.Sprint(n, int(why)), fmt.Sprint(want, 0))
	}
}

func TestAttrOfNone(t *testing.T) {
	s := made(t, 100, "abcd")
	s.Set(a, "n", []byte("v"))
	for _, name := range []string{"", "m", "nn", "N", strings.Repeat("n", 21)} {
		v, why := s.Attr(a, name)
		is(t, fmt.Sprintf("P3.2: Attr %q", name), fmt.Sprint(len(v), int(why)), "0 4")
	}
	s.Make(b)
	hasAttr(t, "P3.2: another object's attribute", s, b, "n", "-")
}

func TestKeys(t *testing.T) {
	s := store.New(100)
	in := []api.Key{{Kind: 2, Img: 1, Num: 3, Snap: 1}, {Kind: 2, Img: 1, Num: 1 << 30}, {Kind: 2, Img: 1, Num: 3}, {Kind: 2, Img: 1, Snap: 1 << 30}, {Kind: 2, Img: 1, Num: 10, Snap: 2}, {Kind: 2, Img: 1}}
	other := []api.Key{{Kind: 1, Img: 1}, {Kind: 3, Img: 1}, {Kind: 2}, {Kind: 2, Img: 2}, {Kind: 255, Img: 255}}
	for i := range in {
		is(t, "P3.2: Make", s.Make(in[i]), api.OK)
	}
	for _, k := range other {
		is(t, "P3.2: Make", s.Make(k), api.OK)
	}
	want := []api.Key{{Kind: 2, Img: 1}, {Kind: 2, Img: 1, Snap: 1 << 30}, {Kind: 2, Img: 1, Num: 3}, {Kind: 2, Img: 1, Num: 3, Snap: 1}, {Kind: 2, Img: 1, Num: 10, Snap: 2}, {Kind: 2, Img: 1, Num: 1 << 30}}
	is(t, "P3.2: Keys, rising", fmt.Sprint(s.Keys(2, 1)), fmt.Sprint(want))
	for _, k := range other {
		is(t, "P3.2: Keys of one", fmt.Sprint(s.Keys(k.Kind, k.Img)), fmt.Sprint([]api.Key{k}))
	}
	for _, x := range [][2]int{{0, 0}, {4, 1}, {2, 3}, {-1, 0}, {256, 0}, {2, -1}, {2, 256}, {math.MaxInt, math.MinInt}} {
		is(t, fmt.Sprint("P3.2: Keys of none: ", x), len(s.Keys(x[0], x[1])), 0)
	}
	s.Drop(want[2])
	s.Trim(want[0], 0)
	is(t, "P3.2: Keys behind Drop", fmt.Sprint(s.Keys(2, 1)), fmt.Sprint(slices.Delete(want, 2, 3)))
	got := s.Keys(2, 1)
	got[0] = api.Key{}
	is(t, "R2: Keys", s.Keys(2, 1)[0], api.Key{Kind: 2, Img: 1})
}

func TestUsedBeyondTheRoom(t *testing.T) {
	s := made(t, 10, "abcdefghij")
	s.Drop(a)
	s.Make(b)
	is(t, "P3.1: Append", s.Append(b, []byte("0123456789")), api.OK)
	is(t, "P3.3: Fall", s.Fall([]int{0, 2}, 0), 1)
	is(t, "P3.2: Used, a Drop lost", s.Used(), 20)
	is(t, "P3.2: Left is at least 0", s.Left(), 0)
	s.Power()
	is(t, "P3.1: nothing grows", s.Append(b, []byte("x")), api.ErrFull)
	is(t, "P3.1: in place", s.Write(b, 0, []byte("x")), api.OK)
	is(t, "P3.1: no bytes", s.Append(b, nil), api.OK)
	s.Drop(a)
	is(t, "P3.2: Left behind Drop", s.Left(), 0)
	s.Trim(b, 9)
	is(t, "P3.2: Left behind Trim", s.Left(), 1)
}

func TestThingsBeyondTheMost(t *testing.T) {
	s := store.New(0)
	for n := range api.MaxThings {
		s.Make(api.Key{Kind: 1, Num: n})
	}
	s.Barrier()
	s.Drop(a)
	is(t, "P3.1: Make in place of one", s.Make(c), api.OK)
	s.Fall([]int{0, 1}, 0)
	s.Power()
	is(t, "P3.3: a Drop lost, a Make kept", len(s.Keys(1, 0))+len(s.Keys(2, 1)), api.MaxThings+1)
	is(t, "P3.1: Make", s.Make(no), api.ErrFull)
	s.Drop(a)
	is(t, "P3.1: Make", s.Make(no), api.ErrFull)
	s.Drop(c)
	is(t, "P3.1: Make", s.Make(no), api.OK)
}

// P3.3

func TestWetAndDeeds(t *testing.T) {
	s := store.New(1000)
	for i, call := range []func() api.Errno{
		func() api.Errno { return s.Make(a) },
		func() api.Errno { return s.Write(a, 0, []byte("abc")) },
		func() api.Errno { return s.Write(a, 5, nil) },
		func() api.Errno { return s.Append(a, []byte("d")) },
		func() api.Errno { return s.Trim(a, 99) },
		func() api.Errno { return s.Set(a, "n", nil) },
		func() api.Errno { return s.Drop(a) },
	} {
		is(t, "P3.3: a deed", call(), api.OK)
		is(t, "P3.3: Wet", s.Wet(), i+1)
		is(t, "P3.3: Deeds", s.Deeds(), i+1)
	}
	s.Drop(a)
	is(t, "P3.3: a refused one isn't wet", s.Wet(), 7)
	is(t, "P3.3: Barrier", s.Barrier(), api.OK)
	is(t, "P3.3: none is wet any more", s.Wet(), 0)
	is(t, "P3.3: a Barrier is a deed", s.Deeds(), 8)
	is(t, "P3.3: Barrier of nothing", s.Barrier(), api.OK)
	is(t, "P3.3: a Barrier is a deed", s.Deeds(), 9)
	is(t, "P3.3: Fall of nothing", s.Fall([]int{5}, 5), 0)
	is(t, "P3.3: Deeds behind a Fall", s.Deeds(), 9)
}

func TestThePagesRun(t *testing.T) {
	s := store.New(1000)
	s.Make(a)
	s.Write(a, 0, []byte("ab"))
	s.Barrier()
	s.Write(a, 2, []byte("c"))
	is(t, "P3.3: Fall", s.Fall(nil, 0), 1)
	is(t, "P3.3: Power", s.Power(), true)
	p, why := s.Read(a, 0, 9)
	is(t, "the page's run", fmt.Sprint(string(p), int(why)), "ab0")
	for torn, want := range map[int]string{0: "", 2: "ab"} {
		s := store.New(1000)
		s.Make(a)
		s.Append(a, []byte("abc"))
		is(t, "the page's examples", s.Fall([]int{1}, torn), 1)
		s.Power()
		has(t, "the page's examples", s, a, want)
	}
}

// longTale is a store whose object a has wet deeds of every kind, and what it is behind each of them: its bytes, "/" and its attribute n.
func longTale(t *testing.T) (*store.Store, []string) {
	s := made(t, 1000, "dry")
	s.Set(a, "n", []byte("old"))
	s.Barrier()
	for _, why := range []api.Errno{
		s.Append(a, []byte("abc")), s.Set(a, "n", []byte("new")), s.Trim(a, 4), s.Write(a, 6, []byte("xy")), s.Set(a, "n", nil),
		s.Drop(a), s.Make(a), s.Write(a, 2, []byte("pq")), s.Set(a, "n", []byte("z")), s.Append(a, nil), s.Append(a, []byte("!")),
	} {
		is(t, "a long tale", why, api.OK)
	}
	return s, []string{"dry/old", "dryabc/old", "dryabc/new", "drya/new", "drya\x00\x00xy/new", "drya\x00\x00xy/-", "-/-", "/-", "\x00\x00pq/-", "\x00\x00pq/z", "\x00\x00pq/z", "\x00\x00pq!/z"}
}

// tale is what longTale tells of an object.
func tale(s *store.Store, k api.Key) string {
	p, attr := "-", "-"
	if b, why := s.Read(k, 0, math.MaxInt); why == api.OK {
		p = string(b)
	}
	if v, why := s.Attr(k, "n"); why == api.OK {
		attr = string(v)
	}
	return p + "/" + attr
}

func TestFallKeeps(t *testing.T) {
	_, want := longTale(t)
	last := len(want) - 1
	for keep := -2; keep <= last+2; keep++ {
		s, _ := longTale(t)
		n := min(max(keep, 0), last)
		what := fmt.Sprint("P3.3, P3.5: keep ", keep)
		is(t, what+": lost", s.Fall([]int{keep, 1, 1}, 0), last-n)
		is(t, what+": On", s.On(), false)
		is(t, what+": Wet", s.Wet(), 0)
		is(t, what+": Power", s.Power(), true)
		is(t, what, tale(s, a), want[n])
		is(t, what+": what was kept is dry", s.Fall(nil, 0), 0)
		s.Power()
		is(t, what+": what was kept is dry", tale(s, a), want[n])
	}
	for _, keep := range []int{math.MinInt, math.MaxInt} {
		s, _ := longTale(t)
		s.Fall([]int{keep}, 0)
		s.Power()
		is(t, "P3.3: keep of any size", tale(s, a), want[min(max(keep, 0), last)])
	}
	for _, keep := range [][]int{nil, {}} {
		s, _ := longTale(t)
		is(t, "P3.3: behind keep's end 0", s.Fall(keep, 0), last)
		s.Power()
		is(t, "P3.3: behind keep's end 0", tale(s, a), want[0])
	}
}

func TestFallTears(t *testing.T) {
	for _, x := range []struct{ keep, torn, last int }{
		{0, 1, 0}, {0, 2, 0}, {0, 3, 0}, {0, 9, 0}, {0, math.MaxInt, 0}, {0, 0, 0}, {0, -1, 0}, {0, math.MinInt, 0},
		{1, 5, 1}, {2, 5, 2}, {3, 1, 3}, {3, 2, 3}, {4, 5, 4}, {5, 5, 5}, {6, 5, 6}, {7, 1, 7}, {7, 3, 7}, {8, 3, 8}, {9, 3, 9}, {10, 1, 10}, {11, 3, 11},
	} {
		s, want := longTale(t)
		must := want[x.last]
		switch {
		case x.keep == 0 && x.torn > 0:
			must = "dry" + "abc"[:min(x.torn, 2)] + "/old"
		case x.keep == 3:
			must = "drya\x00\x00x/new"
		case x.keep == 7:
			must = "\x00\x00p/-"
		}
		what := fmt.Sprintf("P3.3: keep %d, torn %d", x.keep, x.torn)
		is(t, what+": lost, a torn one too", s.Fall([]int{x.keep}, x.torn), 11-x.keep)
		s.Power()
		is(t, what, tale(s, a), must)
	}
}

func TestTornOfEveryLength(t *testing.T) {
	p := "0123456789"
	for n := range len(p) + 1 {
		for torn := -1; torn <= n+2; torn++ {
			for _, off := range []int{0, 1, 4, 7} {
				s := made(t, 1000, "abcd")
				s.Write(a, off, []byte(p[:n]))
				s.Fall(nil, torn)
				s.Power()
				k := min(max(torn, 0), max(n-1, 0))
				want := "abcd"
				if k > 0 {
					want += strings.Repeat("\x00", max(off+k-4, 0))
					want = want[:off] + p[:k] + want[off+k:]
				}
				has(t, fmt.Sprintf("P3.3: Write of %d at %d, torn %d", n, off, torn), s, a, want)
				is(t, "P3.2: Used", s.Used(), len(want))
			}
			s := made(t, 1000, "abcd")
			s.Append(a, []byte(p[:n]))
			is(t, "P3.3: a torn one is lost", s.Fall(nil, torn), 1)
			s.Power()
			has(t, fmt.Sprintf("P3.3: Append of %d, torn %d", n, torn), s, a, "abcd"+p[:min(max(torn, 0), max(n-1, 0))])
		}
	}
}

func TestFallByKeys(t *testing.T) {
	keys := []api.Key{{Kind: 1}, {Kind: 1, Snap: 7}, {Kind: 1, Num: 1}, {Kind: 1, Num: 1, Snap: 1}, {Kind: 1, Img: 1}, {Kind: 2}, {Kind: 2, Num: 9, Snap: 9}, {Kind: 2, Img: 3}, {Kind: 10, Num: 1}}
	r := rand.New(rand.NewSource(1))
	for range 50 {
		s := store.New(1000)
		dry := api.Key{Kind: 1, Num: 0, Snap: 3}
		s.Make(dry)
		s.Append(dry, []byte("dry"))
		s.Barrier()
		for _, i := range r.Perm(len(keys)) {
			s.Make(keys[i])
			s.Append(keys[i], []byte("xy"))
			s.Append(keys[i], []byte("z"))
		}
		want := []string{"", "-", "x", "xyz", "x", "-", "xy", "-", "-"}
		is(t, "P3.3: lost", s.Fall([]int{1, 0, 1, 3, 1, -3, 2}, 0), 19)
		s.Power()
		for i, k := range keys {
			w := want[i]
			if w == "x" {
				w = ""
			}
			has(t, fmt.Sprint("P3.3: by their keys rising: ", k), s, k, w)
		}
		has(t, "P3.3: what has no wet deeds has no place", s, dry, "dry")
	}
}

func TestFallOfDropAndMake(t *testing.T) {
	for keep, x := range []struct {
		want string
		used int
	}{{"abcd/n", 6}, {"-/-", 0}, {"/-", 0}, {"x/-", 1}, {"-/-", 0}, {"/-", 0}, {"/m", 2}} {
		s := made(t, 100, "abcd")
		s.Set(a, "n", []byte("n"))
		s.Barrier()
		for _, why := range []api.Errno{s.Drop(a), s.Make(a), s.Append(a, []byte("x")), s.Drop(a), s.Make(a), s.Set(a, "n", []byte("m"))} {
			is(t, "P3.3: Drop and Make again", why, api.OK)
		}
		is(t, "P3.3: lost", s.Fall([]int{keep}, 9), 6-keep)
		s.Power()
		is(t, fmt.Sprint("P3.3: a Drop and a Make again, keep ", keep), tale(s, a), x.want)
		is(t, "P3.2: Used", s.Used(), x.used)
	}
}

func TestFallOfADropMadeDry(t *testing.T) {
	s := made(t, 100, "abcd")
	s.Drop(a)
	s.Barrier()
	s.Make(a)
	s.Append(a, []byte("x"))
	is(t, "P3.3: Fall", s.Fall(nil, 1), 2)
	s.Power()
	has(t, "P3.5: a dry Drop", s, a, "-")
	is(t, "P3.2: Used", s.Used(), 0)
}

func TestPower(t *testing.T) {
	s := made(t, 100, "abcd")
	is(t, "P3.3: there was power", s.Power(), false)
	s.Append(a, []byte("e"))
	is(t, "P3.3: there was power", s.Power(), false)
	is(t, "P3.3: Power takes nothing", s.Wet(), 1)
	s.Fall([]int{1}, 0)
	is(t, "P3.3: there was none", s.Power(), true)
	is(t, "P3.3: there is again", s.Power(), false)
	is(t, "P3.4: On", s.On(), true)
	is(t, "P3.1: a deed behind it", s.Append(a, []byte("f")), api.OK)
	has(t, "P3.3: Power", s, a, "abcdef")
}

func TestFuseCounts(t *testing.T) {
	for n := range 7 {
		s := store.New(100)
		s.Fuse(n, []int{99}, 0)
		calls := []func() api.Errno{
			func() api.Errno { return s.Make(a) },
			func() api.Errno { return s.Write(a, 0, []byte("ab")) },
			func() api.Errno { return s.Append(a, []byte("c")) },
			func() api.Errno { return s.Barrier() },
			func() api.Errno { return s.Set(a, "n", []byte("v")) },
			func() api.Errno { return s.Trim(a, 1) },
			func() api.Errno { return s.Drop(a) },
		}
		for i, call := range calls {
			if i < n {
				s.Make(api.Key{})
				s.Drop(no)
				s.Write(a, -1, nil)
				s.Read(a, 0, 9)
				is(t, "P3.3: ahead of the fuse's end", call(), api.OK)
				is(t, "P3.3: power", s.On(), true)
				continue
			}
			is(t, "P3.3: the fuse's end, and behind it", call(), api.ErrOff)
			is(t, "P3.3: no power", s.On(), false)
			is(t, "P3.3: Deeds", s.Deeds(), n)
		}
		s.Power()
		want := []string{"-/-", "/-", "ab/-", "abc/-", "abc/-", "abc/v", "a/v"}[n]
		is(t, fmt.Sprint("P3.3: a fuse of ", n), tale(s, a), want)
		is(t, "P3.3: the fuse is out", s.Barrier(), api.OK)
	}
}

func TestFuseOfRefusedDeeds(t *testing.T) {
	s := made(t, 10, "abcd")
	s.Fuse(0, nil, 0)
	for what, why := range map[string]api.Errno{
		"Make": s.Make(a), "Make of a wrong key": s.Make(api.Key{}), "Write": s.Write(a, -1, nil), "Append": s.Append(a, make([]byte, 7)),
		"Trim": s.Trim(no, 0), "Drop": s.Drop(no), "Set": s.Set(a, "", nil), "Set of too much": s.Set(a, "n", make([]byte, 6)),
	} {
		if why == api.OK || why == api.ErrOff {
			t.Errorf("P3.3: what is refused doesn't blow a fuse: %s: %v", what, why)
		}
	}
	is(t, "P3.3: power", s.On(), true)
	is(t, "P3.3: the next one does", s.Append(a, nil), api.ErrOff)
	is(t, "P3.3: no power", s.On(), false)
}

func TestFuseFallsAsFallDoes(t *testing.T) {
	_, want := longTale(t)
	for keep := range len(want) {
		for torn := range 4 {
			s, _ := longTale(t)
			other := s.Twin()
			s.Fuse(0, []int{keep}, torn)
			is(t, "P3.3: Fuse", s.Append(a, []byte("lost")), api.ErrOff)
			other.Fall([]int{keep}, torn)
			s.Power()
			other.Power()
			is(t, fmt.Sprintf("P3.3: a fuse's Fall of keep %d, torn %d", keep, torn), tale(s, a), tale(other, a))
			is(t, "P3.3: nothing is wet", s.Wet(), 0)
		}
	}
}

func TestFuseIsTakenOut(t *testing.T) {
	for _, out := range []int{-1, -5, math.MinInt} {
		s := made(t, 100, "a")
		s.Fuse(0, nil, 0)
		s.Fuse(out, []int{1}, 1)
		for range 5 {
			is(t, "P3.3: taken out", s.Append(a, []byte("b")), api.OK)
		}
	}
	s := made(t, 100, "a")
	s.Fuse(0, nil, 0)
	s.Fall(nil, 0)
	s.Power()
	is(t, "P3.3: a Fall takes it out", s.Append(a, []byte("b")), api.OK)
	s.Fuse(0, nil, 0)
	s.Fuse(1, []int{2}, 0)
	is(t, "P3.3: a fuse in place of another", s.Append(a, []byte("c")), api.OK)
	is(t, "P3.3: a fuse in place of another", s.Append(a, []byte("d")), api.ErrOff)
	s.Power()
	has(t, "P3.3: its own keep", s, a, "abc")
	is(t, "P3.3: a fuse that blew is out", s.Append(a, []byte("d")), api.OK)
}

func TestFuseWithoutPower(t *testing.T) {
	s := made(t, 100, "a")
	s.Fall(nil, 0)
	s.Fuse(1, nil, 0)
	is(t, "P3.3: a Fall without power", s.Fall(nil, 0), 0)
	is(t, "P3.1: a deed without power", s.Barrier(), api.ErrOff)
	s.Power()
	is(t, "P3.3: a fuse that was put in without power", s.Append(a, []byte("b")), api.OK)
	is(t, "P3.3: a fuse that was put in without power", s.Append(a, []byte("c")), api.ErrOff)
	s = made(t, 100, "a")
	s.Fuse(math.MaxInt, nil, 0)
	for range 100 {
		is(t, "P3.3: a fuse of more deeds than follow", s.Append(a, nil), api.OK)
	}
}

// P3.4

func TestRot(t *testing.T) {
	for _, x := range []struct {
		at   int
		x    byte
		ok   bool
		want string
	}{{0, 1, true, "`bcd"}, {1, 1, true, "accd"}, {3, 0xff, true, "abc\x9b"}, {2, 0, true, "abcd"}, {4, 1, false, "abcd"}, {-1, 1, false, "abcd"}, {math.MaxInt, 1, false, "abcd"}, {math.MinInt, 1, false, "abcd"}} {
		s := made(t, 100, "abcd")
		is(t, fmt.Sprint("P3.4: Rot at ", x.at), s.Rot(a, x.at, x.x), x.ok)
		has(t, fmt.Sprint("P3.4: Rot at ", x.at), s, a, x.want)
		is(t, "P3.4: Rot is no deed", fmt.Sprint(s.Deeds(), s.Wet()), "3 0")
		s.Fall(nil, 0)
		s.Power()
		has(t, "P3.4: Rot is dry", s, a, x.want)
		s.Rot(a, x.at, x.x)
		has(t, "P3.4: Rot twice", s, a, "abcd")
	}
}

func TestRotOfAWetObject(t *testing.T) {
	s := made(t, 100, "abcd")
	s.Append(a, []byte("ef"))
	s.Set(a, "n", []byte("v"))
	s.Make(b)
	s.Append(b, []byte("xy"))
	is(t, "P3.4: Rot of a dry byte", s.Rot(a, 0, 1), true)
	is(t, "P3.4: Rot of a wet byte", s.Rot(a, 5, 1), true)
	is(t, "P3.4: Rot of a wet object", s.Rot(b, 1, 1), true)
	is(t, "P3.4: Rot beyond", s.Rot(b, 2, 1), false)
	has(t, "P3.4: Rot", s, a, "`bcdeg")
	has(t, "P3.4: Rot", s, b, "xx")
	s.Fuse(0, nil, 0)
	is(t, "P3.4: Rot blows no fuse", s.Rot(a, 0, 1), true)
	is(t, "P3.4: Rot blows no fuse", s.On(), true)
	s.Barrier()
	s.Power()
	n, why := s.Size(a)
	is(t, "P3.4: behind a Fall an object is as long as it was", fmt.Sprint(n, int(why)), "4 0")
	s.Drop(a)
	is(t, "P3.4: Rot of what was dropped", s.Rot(a, 0, 1), false)
}

func TestRotIsDryToo(t *testing.T) {
	s := made(t, 100, "abcd")
	s.Set(a, "n", []byte("v"))
	s.Append(a, []byte("ef"))
	s.Rot(a, 1, 1)
	s.Rot(a, 4, 1)
	s.Fall(nil, 0)
	s.Power()
	has(t, "P3.4: a dry byte of an object whose wet deeds are all lost", s, a, "accd")
}

func TestTwin(t *testing.T) {
	s, want := longTale(t)
	s.Make(b)
	x := s.Twin()
	is(t, "P3.4: Twin's Deeds", x.Deeds(), s.Deeds())
	is(t, "P3.4: Twin's Wet", x.Wet(), s.Wet())
	is(t, "P3.4: Twin's Used", x.Used(), s.Used())
	is(t, "P3.4: Twin's Left", x.Left(), s.Left())
	is(t, "P3.4: Twin's Keys", fmt.Sprint(x.Keys(1, 0)), fmt.Sprint(s.Keys(1, 0)))
	is(t, "P3.4: Twin's object", tale(x, a), tale(s, a))
	// The same place of both, changed otherwise in each.
	x.Append(a, []byte("X"))
	s.Append(a, []byte("S"))
	x.Write(a, 0, []byte("x"))
	x.Set(a, "n", []byte("x"))
	x.Append(b, []byte("x"))
	x.Make(c)
	has(t, "P3.4: what is done to the Twin", s, a, "\x00\x00pq!S")
	hasAttr(t, "P3.4: what is done to the Twin", s, a, "n", "z")
	has(t, "P3.4: what is done to the Twin", s, b, "")
	has(t, "P3.4: what is done to the Twin", s, c, "-")
	s.Drop(a)
	s.Rot(b, 0, 1)
	has(t, "P3.4: what is done to its original", x, a, "x\x00pq!X")
	is(t, "P3.3: the Twin's wet deeds", x.Fall([]int{12, 1}, 0), 4)
	is(t, "P3.4: the Twin's Fall", s.On(), true)
	x.Power()
	is(t, "P3.4: the Twin's wet deeds", tale(x, a), "\x00\x00pq!X/z")
	s.Fall([]int{3}, 0)
	s.Power()
	is(t, "P3.4: the original's wet deeds", tale(s, a), want[3])
}

func TestTwinWithAFuse(t *testing.T) {
	s := made(t, 100, "a")
	s.Append(a, []byte("b"))
	s.Fuse(2, []int{3}, 0)
	s.Append(a, []byte("c"))
	x := s.Twin()
	is(t, "P3.4: the Twin's fuse", x.Append(a, []byte("d")), api.OK)
	is(t, "P3.4: the Twin's fuse", x.Append(a, []byte("e")), api.ErrOff)
	is(t, "P3.4: the original's power", s.On(), true)
	is(t, "P3.4: the original's fuse", s.Append(a, []byte("D")), api.OK)
	y := s.Twin()
	s.Fuse(-1, nil, 0)
	is(t, "P3.4: the original's fuse, out", s.Append(a, []byte("E")), api.OK)
	is(t, "P3.4: the Twin's isn't", y.Append(a, []byte("E")), api.ErrOff)
	x.Power()
	y.Power()
	has(t, "P3.4: Twin", x, a, "abcd")
	has(t, "P3.4: Twin", y, a, "abcD")
	has(t, "P3.4: Twin", s, a, "abcDE")
}

func TestTwinWithoutPower(t *testing.T) {
	s := made(t, 100, "a")
	s.Fall(nil, 0)
	x := s.Twin()
	is(t, "P3.4: a Twin without power", x.On(), false)
	is(t, "P3.4: its Power", x.Power(), true)
	is(t, "P3.4: the original's power", s.On(), false)
	x.Append(a, []byte("b"))
	s.Power()
	has(t, "P3.4: the original", s, a, "a")
	has(t, "P3.4: the Twin", x, a, "ab")
	is(t, "P3.4: a Twin of an empty one", store.New(5).Twin().Make(a), api.OK)
	is(t, "P3.4: its room", store.New(5).Twin().Left(), 5)
}

// The rules.

func TestNilStore(t *testing.T) {
	var s *store.Store
	for _, k := range append(wrong(), a) {
		for what, call := range deeds(s, k) {
			is(t, "R1: a nil one: "+what, call(), api.ErrArg)
		}
		for what, call := range asks(s, k) {
			is(t, "R1: a nil one: "+what, call(), api.ErrArg)
		}
		is(t, "R1: a nil one: Rot", s.Rot(k, 0, 1), false)
	}
	is(t, "R1: a nil one: Barrier", s.Barrier(), api.ErrArg)
	is(t, "R1: a nil one: Keys", len(s.Keys(1, 0)), 0)
	is(t, "R1: a nil one: numbers", fmt.Sprint(s.Used(), s.Left(), s.Wet(), s.Deeds(), s.Fall([]int{1}, 1)), "0 0 0 0 0")
	is(t, "R1: a nil one: bools", s.On() || s.Power(), false)
	is(t, "R1: a nil one: Twin", s.Twin(), nil)
	s.Fuse(1, []int{1}, 1)
}

func TestStoreThatNobodyMade(t *testing.T) {
	s := new(store.Store)
	is(t, "R1: as New(0): Left", s.Left(), 0)
	is(t, "R1: as New(0): Fall", s.Twin().Fall(nil, 0), 0)
	is(t, "R1: as New(0): Barrier", s.Barrier(), api.OK)
	is(t, "R1: as New(0): Make", s.Make(a), api.OK)
	is(t, "R1: as New(0): Set", s.Set(a, "n", nil), api.OK)
	is(t, "R1: as New(0): Append", s.Append(a, []byte("x")), api.ErrFull)
}

func TestWhatIsHandedInIsLeft(t *testing.T) {
	s := made(t, 1000, "abcd")
	spare := []byte("pqrs----")
	p := spare[:4]
	s.Write(a, 0, p)
	s.Append(a, p)
	s.Set(a, "n", p)
	s.Append(a, []byte("more"))
	keep := []int{1, 2, 7, 7}
	s.Fuse(9, keep[:2], 1)
	s.Twin().Fall(keep[:2], 1)
	is(t, "R2: what is handed in isn't changed", string(spare), "pqrs----")
	is(t, "R2: what is handed in isn't changed", fmt.Sprint(keep), "[1 2 7 7]")
	copy(spare, "!!!!!!!!")
	has(t, "R2: what is handed in isn't kept", s, a, "pqrspqrsmore")
	hasAttr(t, "R2: what is handed in isn't kept", s, a, "n", "pqrs")
	s.Fall([]int{3}, 0)
	s.Power()
	has(t, "R2: what is wet isn't kept in what was handed in", s, a, "pqrspqrs")
	hasAttr(t, "R2: what is wet isn't kept in what was handed in", s, a, "n", "pqrs")
}

func TestSpareRoomOfKeepIsNotRead(t *testing.T) {
	keep := []int{1, 2, 2}
	for _, fused := range []bool{false, true} {
		s := store.New(100)
		for _, k := range []api.Key{a, b, c} {
			s.Make(k)
			s.Append(k, []byte("x"))
		}
		if fused {
			s.Fuse(0, keep[:2], 0)
			keep[1] = 0
			s.Barrier()
			keep[1] = 2
		} else {
			s.Fall(keep[:2], 0)
		}
		s.Power()
		has(t, "R5: keep", s, a, "")
		has(t, "R2: keep", s, b, "x")
		has(t, "R5: keep's spare room", s, c, "-")
	}
}

func TestAnswersAreNewMemory(t *testing.T) {
	s := made(t, 1000, "abcd")
	s.Set(a, "n", []byte("value"))
	p, _ := s.Read(a, 1, 2)
	v, _ := s.Attr(a, "n")
	again, _ := s.Read(a, 1, 2)
	for _, l := range [][]byte{p[:cap(p)], v[:cap(v)]} {
		for i := range l {
			l[i] = '!'
		}
	}
	has(t, "R2: Read", s, a, "abcd")
	is(t, "R2: Read", string(again), "bc")
	hasAttr(t, "R2: Attr", s, a, "n", "value")
	s.Write(a, 0, []byte("zzzz"))
	is(t, "R2: an answer stays", string(again), "bc")
}

// P3.1 to P3.5 together: against a store that is slow and plain.

// apart tells where s and m differ; "": nowhere.
func apart(s *store.Store, m *model) string {
	if got, want := fmt.Sprint(s.On(), s.Wet(), s.Deeds(), s.Used(), s.Left()), fmt.Sprint(!m.off, m.wet(), m.deeds, m.used(), m.spare()); got != want {
		return fmt.Sprintf("On, Wet, Deeds, Used, Left: %s, must be %s", got, want)
	}
	if m.off {
		return ""
	}
	there := 0
	for _, k := range m.sorted() {
		want := m.now(k)
		n, why := s.Size(k)
		if (why == api.OK) != want.there || n != len(want.bytes) {
			return fmt.Sprintf("Size of %v: %d, %v, must be %q, there: %v", k, n, why, want.bytes, want.there)
		}
		if !want.there {
			continue
		}
		there++
		if p, _ := s.Read(k, 0, math.MaxInt); string(p) != want.bytes {
			return fmt.Sprintf("Read of %v: %q, must be %q", k, p, want.bytes)
		}
		for _, name := range []string{"n", "long-name"} {
			if v, _ := s.Attr(k, name); string(v) != want.attrs[name] {
				return fmt.Sprintf("Attr %s of %v: %q, must be %q", name, k, v, want.attrs[name])
			}
		}
	}
	for kind := 1; kind <= 2; kind++ {
		there -= len(s.Keys(kind, 0)) + len(s.Keys(kind, 1))
	}
	if there != 0 {
		return "Keys: more or less than there are"
	}
	return ""
}

// anyDeed does one to both, and tells what each answered.
func anyDeed(r *rand.Rand, s *store.Store, m *model) (string, any, any) {
	keys := []api.Key{a, b, c, {Kind: 1, Img: 1, Snap: 1}, {Kind: 2, Num: 3, Snap: 1}}
	k := keys[r.Intn(len(keys))]
	off, name := r.Intn(12)-1, []string{"n", "long-name"}[r.Intn(2)]
	p := make([]byte, r.Intn(7))
	r.Read(p)
	keep := make([]int, r.Intn(6))
	for i := range keep {
		keep[i] = r.Intn(8) - 1
	}
	torn := r.Intn(6) - 1
	switch n := r.Intn(100); {
	case n < 20:
		return fmt.Sprint("Make ", k), s.Make(k), m.make(k)
	case n < 45:
		return fmt.Sprint("Write ", k, off, p), s.Write(k, off, p), m.write(k, off, string(p))
	case n < 60:
		return fmt.Sprint("Append ", k, p), s.Append(k, p), m.write(k, max(len(m.now(k).bytes), 0), string(p))
	case n < 68:
		return fmt.Sprint("Trim ", k, off), s.Trim(k, off), m.trim(k, off)
	case n < 73:
		return fmt.Sprint("Drop ", k), s.Drop(k), m.drop(k)
	case n < 85:
		return fmt.Sprint("Set ", k, name, p), s.Set(k, name, p), m.set(k, name, string(p))
	case n < 90:
		return "Barrier", s.Barrier(), m.barrier()
	case n < 94:
		s.Fuse(off, keep, torn)
		m.fused, m.left, m.keep, m.torn = off >= 0, off, keep, torn
		return fmt.Sprint("Fuse ", off, keep, torn), 0, 0
	case n < 97:
		return fmt.Sprint("Fall ", keep, torn), s.Fall(keep, torn), m.fall(keep, torn)
	}
	return "Power", s.Power(), m.power()
}

func TestAgainstThePlainOne(t *testing.T) {
	r := rand.New(rand.NewSource(33))
	for round := range 1500 {
		room := r.Intn(90)
		s, m := store.New(room), newModel(room)
		var did []string
		for range 60 {
			if r.Intn(20) == 0 {
				// The one that was left is dealt with, too: nothing of it may reach its twin.
				old, wasOld := s, m
				s, m = s.Twin(), m.twin()
				for range 4 {
					anyDeed(r, old, wasOld)
				}
				if why := apart(old, wasOld); why != "" {
					t.Fatalf("P3.4, round %d, behind %v and a Twin: %s", round, did, why)
				}
			}
			what, got, want := anyDeed(r, s, m)
			did = append(did, what)
			if fmt.Sprint(got) != fmt.Sprint(want) {
				t.Fatalf("P3.1, P3.3, round %d: %v: %v, must be %v", round, did, got, want)
			}
			if why := apart(s, m); why != "" {
				t.Fatalf("P3.2, P3.3, P3.5, round %d: %v: %s", round, did, why)
			}
		}
	}
}
