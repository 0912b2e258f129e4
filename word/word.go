// Package word is layer 1: fields of a word: see shared/doc/01-word.md.
package word

import "butler/api"

const (
	wordBits  = 64
	fieldBits = 62 // so that 2^Bits is an int, too
)

// mayBe adds nothing up: At and Bits may be so great that their sum would go round.
func mayBe(f api.Field) bool {
	return f.Bits >= 1 && f.Bits <= fieldBits && f.At >= 0 && f.At <= wordBits-f.Bits
}

// bit is 0 or 1, of a number below 0 too: the shift fills up with the sign, which is then cut off.
func bit(x, at int) int {
	return (x >> at) & 1
}

// Right tells whether fields may be, side by side.
func Right(l []api.Field) bool {
	taken := 0
	for _, f := range l {
		if !mayBe(f) {
			return false
		}
		for i := range f.Bits {
			at := f.At + i
			if bit(taken, at) == 1 {
				return false
			}
			taken |= 1 << at
		}
	}
	return true
}

// Get is what stands in a field.
func Get(x int, f api.Field) int {
	if !mayBe(f) {
		return 0
	}
	v := 0
	for i := range f.Bits {
		v |= bit(x, f.At+i) << i
	}
	return v
}

// Put is a word with that in a field.
func Put(x int, f api.Field, v int) (int, api.Errno) {
	if !mayBe(f) || v < 0 || v >= 1<<f.Bits {
		return 0, api.ErrWordField
	}
	for i := range f.Bits {
		at := f.At + i
		x = x&^(1<<at) | bit(v, i)<<at
	}
	return x, api.OK
}
