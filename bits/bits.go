// Package bits: numbers in bytes: see doc/01-bits.md.
package bits

const (
	widest   = 8 // bytes that Put and Get move at most: those of a uint64
	longest  = 9 // bytes of a Var at most: nine times seven bits are all that an int from 0 on has
	more     = 1 << 7
	lowSeven = more - 1
)

// Put is b and behind it n's lowest width bytes, the lowest first; b alone, if width isn't 1 to 8.
func Put(b []byte, n uint64, width int) []byte {
	if width < 1 || width > widest {
		return copied(b, 0)
	}
	out := copied(b, width)
	for i := range width {
		out = append(out, byte(n>>(8*i)))
	}
	return out
}

// Get is the number that the width bytes from at on make, the lowest first; false, if width isn't 1 to 8 or they aren't all there.
func Get(b []byte, at, width int) (uint64, bool) {
	if width < 1 || width > widest || at < 0 || at > len(b)-width {
		return 0, false
	}
	var n uint64
	for i, c := range b[at : at+width] {
		n |= uint64(c) << (8 * i)
	}
	return n, true
}

// Var is b and behind it n (below 0 as 0), seven bits a byte, the lowest first, 128 more in each but the last.
func Var(b []byte, n int) []byte {
	out := copied(b, longest)
	rest := uint64(max(n, 0))
	for rest > lowSeven {
		out = append(out, byte(rest)|more)
		rest >>= 7
	}
	return append(out, byte(rest))
}

// GetVar is the number of a Var that stands at at, and the place behind it; false, if none as Var writes it stands there.
func GetVar(b []byte, at int) (int, int, bool) {
	if at < 0 || at >= len(b) {
		return 0, 0, false
	}
	rest := b[at:]
	var n uint64
	for i, c := range rest[:min(len(rest), longest)] {
		n |= uint64(c&lowSeven) << (7 * i)
		if c < more {
			// A last byte of 0 behind others would give one number two spellings.
			if c == 0 && i > 0 {
				return 0, 0, false
			}
			return int(n), at + i + 1, true
		}
	}
	return 0, 0, false
}

// Text is b and behind it Var of how many bytes s has, and they.
func Text(b []byte, s string) []byte {
	return append(Var(b, len(s)), s...)
}

// GetText is the text that stands at at, and the place behind it; false, if GetVar's is, it has more than most bytes, or b ends ahead of its end.
func GetText(b []byte, at, most int) (string, int, bool) {
	n, from, ok := GetVar(b, at)
	if !ok || n > most || n > len(b)-from {
		return "", 0, false
	}
	return string(b[from : from+n]), from + n, true
}

// Mask is the number whose lowest k bits are 1, k held between 0 and 64.
func Mask(k int) uint64 {
	return uint64(1)<<held(k) - 1
}

// Cut is n moved down by at (held between 0 and 64), of which the lowest width bits are left.
func Cut(n uint64, at, width int) uint64 {
	return n >> held(at) & Mask(width)
}

// Log is the place of n's highest 1, the lowest is 0; -1 of n below 1.
func Log(n int) int {
	if n < 1 {
		return -1
	}
	place := 0
	for step := 32; step > 0; step >>= 1 {
		if n>>step > 0 {
			n >>= step
			place += step
		}
	}
	return place
}

// Zig is twice n from 0 on; of n below 0 twice -(n + 1), and 1: numbers near 0 stay small, whatever their sign.
func Zig(n int) uint64 {
	twice := uint64(n) << 1
	if n < 0 {
		// All bits turned is -(2n) - 1: -(n + 1) itself is never doubled as an int, which the least int would not bear.
		return ^twice
	}
	return twice
}

// Zag is the number whose Zig is u.
func Zag(u uint64) int {
	half := int(u >> 1)
	if u&1 == 1 {
		return ^half
	}
	return half
}

// held is k held between 0 and 64: Go's shifts panic below 0.
func held(k int) int {
	return min(max(k, 0), 64)
}

// copied is b in new memory with spare room for room bytes: append to b itself might write into what the caller owns.
func copied(b []byte, room int) []byte {
	return append(make([]byte, 0, len(b)+room), b...)
}
