package crc_test

import (
	"bytes"
	"encoding/binary"
	"go/build"
	"hash/crc64"
	"slices"
	"sync"
	"testing"

	"bodega/crc"
)

const top = 1<<64 - 1

// extended is Extend as promise 2.1 describes it, bit by bit.
func extended(sum uint64, b []byte) uint64 {
	register := ^sum
	for _, x := range b {
		register ^= uint64(x)
		for range 8 {
			out := register & 1
			register >>= 1
			if out == 1 {
				register ^= 0xC96C5795D7870F42
			}
		}
	}
	return ^register
}

// mixed returns n bytes without a short period; another seed gives other bytes.
func mixed(n int, seed uint64) []byte {
	b := make([]byte, n)
	for i := range b {
		seed = seed*6364136223846793005 + 1442695040888963407
		b[i] = byte(seed >> 56)
	}
	return b
}

// inputs are all single bytes, and bytes of many lengths: zeros, ones, and mixed ones.
func inputs() [][]byte {
	all := [][]byte{nil, {}, []byte("123456789"), []byte("bodega")}
	for x := range 256 {
		all = append(all, []byte{byte(x)}, []byte{0, byte(x), 0xFF})
	}
	for n := range 80 {
		all = append(all, make([]byte, n), bytes.Repeat([]byte{0xFF}, n), mixed(n, uint64(n)))
	}
	for _, n := range []int{255, 256, 257, 1000, 2048, 16384, 1 << 17} {
		all = append(all, make([]byte, n), mixed(n, uint64(n)))
	}
	return all
}

func sums() []uint64 {
	all := []uint64{0, 1, 77, top - 1, top, 0x995DC9BBDF1939FA, 0xC96C5795D7870F42, 0x0123_4567_89AB_CDEF}
	for bit := range 64 {
		all = append(all, 1<<bit, top-1<<bit)
	}
	return all
}

// Promise 2.1: the examples of the chapter, and published values of CRC-64/XZ.
func TestKnownSums(t *testing.T) {
	for text, want := range map[string]uint64{
		"":          0,
		"123456789": 0x995DC9BBDF1939FA,
		"a":         0x330284772E652B05,
		"ab":        0xBC6573200E84B046,
		"abc":       0x2CD8094A1A277627,
	} {
		if got := crc.Bytes([]byte(text)); got != want {
			t.Errorf("Bytes(%q) = %#x; want %#x", text, got, want)
		}
	}
}

// Promise 2.1: against the description bit by bit and against the library's CRC-64 with the same polynomial.
func TestBytes(t *testing.T) {
	library := crc64.MakeTable(crc64.ECMA)
	for _, b := range inputs() {
		got := crc.Bytes(b)
		if want := extended(0, b); got != want {
			t.Errorf("Bytes of %d bytes = %#x; bit by bit %#x", len(b), got, want)
		}
		if want := crc64.Checksum(b, library); got != want {
			t.Errorf("Bytes of %d bytes = %#x; in the library %#x", len(b), got, want)
		}
	}
}

// Promise 2.2: the words' bytes, the least significant one first.
func TestWords(t *testing.T) {
	if got := crc.Words(nil); got != 0 {
		t.Errorf("Words of nothing = %#x", got)
	}
	if got, want := crc.Words([]uint64{0x0807060504030201}), crc.Bytes([]byte{1, 2, 3, 4, 5, 6, 7, 8}); got != want {
		t.Errorf("Words of one word = %#x; want %#x", got, want)
	}
	for n := range 300 {
		b := mixed(8*n, uint64(n))
		words := make([]uint64, n)
		for i := range words {
			words[i] = binary.LittleEndian.Uint64(b[8*i:])
		}
		if got, want := crc.Words(words), crc.Bytes(b); got != want {
			t.Errorf("Words of %d words = %#x; want %#x", n, got, want)
		}
	}
	for _, first := range sums() {
		for _, second := range sums() {
			b := binary.LittleEndian.AppendUint64(binary.LittleEndian.AppendUint64(nil, first), second)
			if got, want := crc.Words([]uint64{first, second}), crc.Bytes(b); got != want {
				t.Errorf("Words of %#x, %#x = %#x; want %#x", first, second, got, want)
			}
		}
	}
}

// Promise 2.2: every cut of every short input, also at its ends, and nothing before it.
func TestExtend(t *testing.T) {
	for _, s := range inputs() {
		if got, want := crc.Extend(0, s), crc.Bytes(s); got != want {
			t.Errorf("Extend(0, %d bytes) = %#x; want %#x", len(s), got, want)
		}
		if len(s) > 300 {
			continue
		}
		for cut := range len(s) + 1 {
			if got, want := crc.Extend(crc.Bytes(s[:cut]), s[cut:]), crc.Bytes(s); got != want {
				t.Errorf("%d bytes extended by %d = %#x; want %#x", cut, len(s)-cut, got, want)
			}
		}
	}
}

// Promise 2.2: every number is the checksum of eight bytes, so every number can be extended.
func TestExtendAnySum(t *testing.T) {
	for _, sum := range sums() {
		if got := crc.Extend(sum, nil); got != sum {
			t.Errorf("Extend(%#x, nothing) = %#x", sum, got)
		}
		for _, b := range [][]byte{{0}, {0xFF}, []byte("123456789"), mixed(100, sum)} {
			got := crc.Extend(sum, b)
			if want := extended(sum, b); got != want {
				t.Errorf("Extend(%#x, %d bytes) = %#x; want %#x", sum, len(b), got, want)
			}
			if again := crc.Extend(crc.Extend(sum, b), []byte("more")); again != crc.Extend(sum, append(bytes.Clone(b), "more"...)) {
				t.Errorf("%#x extended by %d bytes and by 4 more = %#x", sum, len(b), again)
			}
		}
	}
}

// basis holds independent words, each under its highest bit; words are added modulo 2 (exclusive or).
type basis [64]uint64

// add adds w, and reports false if w is a sum of words that are there already.
func (held *basis) add(w uint64) bool {
	for bit := 63; bit >= 0; bit-- {
		if w>>bit&1 == 0 {
			continue
		}
		if held[bit] == 0 {
			held[bit] = w
			return true
		}
		w ^= held[bit]
	}
	return false
}

// flipped returns a copy of b with another bit at, counted from the least significant bit of b[0] on.
func flipped(b []byte, at int) []byte {
	b = bytes.Clone(b)
	b[at/8] ^= 1 << (at % 8)
	return b
}

// Promise 2.3: a difference of several bits changes the checksum by the sum of what each bit changes (the test below),
// so all differences within 64 bits change it if the changes of these bits are independent.
func TestBursts(t *testing.T) {
	for _, n := range []int{8, 9, 16, 40, 301} {
		b := mixed(n, 5)
		plain := crc.Bytes(b)
		change := make([]uint64, 8*n)
		for at := range change {
			change[at] = plain ^ crc.Bytes(flipped(b, at))
		}
		for from := 0; from+64 <= len(change); from++ {
			var held basis
			for at := from; at < from+64; at++ {
				if !held.add(change[at]) {
					t.Fatalf("%d bytes: differences within the bits %d to %d have no effect", n, from, at)
				}
			}
		}
	}
}

// Promise 2.3: some differences of several bits at every place, and that their effects add up.
func TestSomeBursts(t *testing.T) {
	b := mixed(40, 9)
	plain := crc.Bytes(b)
	for _, burst := range append(sums(), 3, 0xFF, 0x8000_0000_0000_0001, 0xA5A5_5A5A_0FF0_C33C) {
		for from := range 8*len(b) - 63 {
			other, sum := bytes.Clone(b), uint64(0)
			for bit := range 64 {
				if burst>>bit&1 == 1 {
					other = flipped(other, from+bit)
					sum ^= plain ^ crc.Bytes(flipped(b, from+bit))
				}
			}
			got := crc.Bytes(other)
			if got == plain && burst != 0 {
				t.Fatalf("the difference %#x at bit %d has no effect", burst, from)
			}
			if got != plain^sum {
				t.Fatalf("the difference %#x at bit %d changes %#x to %#x; its bits add up to %#x", burst, from, plain, got, plain^sum)
			}
		}
	}
}

// Promise 2.3: a word that is replaced by any other one.
func TestReplacedWord(t *testing.T) {
	words := []uint64{1, 2, 96, 256, 0, top, 7}
	plain := crc.Words(words)
	for i, old := range words {
		for _, other := range sums() {
			words[i] = other
			if got := crc.Words(words); (got == plain) != (other == old) {
				t.Errorf("word %d changed from %#x to %#x: %#x, before %#x", i, old, other, got, plain)
			}
		}
		words[i] = old
	}
}

// Rule R2: the arguments are as before, also behind their ends, and what is behind the ends does not matter.
func TestArgumentsStay(t *testing.T) {
	b, words := mixed(64, 3), []uint64{1, 2, 3, 4, 5}
	oldBytes, oldWords := bytes.Clone(b), slices.Clone(words)
	if crc.Bytes(b[:20]) != crc.Bytes(bytes.Clone(oldBytes[:20])) || crc.Extend(5, b[:20]) != extended(5, oldBytes[:20]) {
		t.Error("bytes behind the end matter")
	}
	if crc.Words(words[:3]) != crc.Words([]uint64{1, 2, 3}) {
		t.Error("words behind the end matter")
	}
	if !bytes.Equal(b, oldBytes) || !slices.Equal(words, oldWords) {
		t.Error("an argument was changed")
	}
}

// Rule R3: a result does not depend on other calls, before it or beside it.
func TestCallsBesideEachOther(t *testing.T) {
	var all sync.WaitGroup
	for worker := range 8 {
		all.Go(func() {
			for n := range 200 {
				b := mixed(n, uint64(worker))
				if got, want := crc.Bytes(b), extended(0, b); got != want {
					t.Errorf("Bytes of %d bytes = %#x; want %#x", n, got, want)
				}
			}
		})
	}
	all.Wait()
}

// Package crc uses no other package.
func TestImports(t *testing.T) {
	folder, err := build.ImportDir(".", 0)
	if err != nil {
		t.Fatal(err)
	}
	if len(folder.GoFiles) == 0 || len(folder.Imports) != 0 {
		t.Errorf("the files %q import %q", folder.GoFiles, folder.Imports)
	}
}
