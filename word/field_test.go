package word_test

import (
	"testing"

	"bodega/api"
	"bodega/word"
)

// bits returns the bits of w from bit at on, bit by bit.
func bits(w uint64, at, n int) uint64 {
	var v uint64
	for i := n - 1; i >= 0; i-- {
		v *= 2
		if w>>(at+i)%2 == 1 {
			v++
		}
	}
	return v
}

// replaced returns w with the bits from bit at on replaced by those of v, bit by bit.
func replaced(w uint64, at, n int, v uint64) uint64 {
	for i := range n {
		w &^= 1 << (at + i)
		w |= v >> i % 2 << (at + i)
	}
	return w
}

// Promise 1.1.
func TestField(t *testing.T) {
	for n := 1; n <= 64; n++ {
		for at := 0; at <= 64-n; at++ {
			for _, w := range edgeWords() {
				got, code := word.Field(w, at, n)
				isPacked(t, show("Field", w, at, n), got, code, bits(w, at, n), api.OK)
			}
		}
	}
}

// Promise 1.1: the least value, the greatest value, and some in between.
func TestSetField(t *testing.T) {
	for n := 1; n <= 64; n++ {
		most := bits(top, 0, n)
		for at := 0; at <= 64-n; at++ {
			for _, v := range []uint64{0, 1, most / 2, most - 1, most} {
				for _, w := range []uint64{0, top, 0xA5A5_5A5A_0FF0_C33C} {
					got, code := word.SetField(w, at, n, v)
					isPacked(t, show("SetField", w, at, n, v), got, code, replaced(w, at, n, v), api.OK)
				}
			}
		}
	}
}

// Promise 1.1: v needs more than n bits, by one or by many.
func TestSetFieldWithTooGreatValue(t *testing.T) {
	for n := 1; n < 64; n++ {
		for at := 0; at <= 64-n; at++ {
			for _, v := range []uint64{1 << n, 1<<n + 1, 1 << 63, top} {
				got, code := word.SetField(top, at, n, v)
				isPacked(t, show("SetField", uint64(top), at, n, v), got, code, 0, api.ErrRange)
			}
		}
	}
}

// Promise 1.1: a field that does not lie within the word, also beside a value that is too great.
func TestFieldOutsideTheWord(t *testing.T) {
	for _, at := range edgeInts() {
		for _, n := range edgeInts() {
			if n >= 1 && n <= 64 && at >= 0 && at <= 64-n {
				continue
			}
			got, code := word.Field(top, at, n)
			isPacked(t, show("Field", uint64(top), at, n), got, code, 0, api.ErrArg)
			for _, v := range []uint64{0, top} {
				got, code = word.SetField(top, at, n, v)
				isPacked(t, show("SetField", uint64(top), at, n, v), got, code, 0, api.ErrArg)
			}
		}
	}
}
