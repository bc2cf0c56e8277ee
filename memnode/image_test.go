package memnode_test

import (
	"bytes"
	"encoding/binary"
	"hash/crc64"
	"slices"
	"testing"

	"bodega/api"
	"bodega/memnode"
)

func fromBytes(b []byte) uint64 {
	return binary.LittleEndian.Uint64(b)
}

// sealed appends the checksum of the bytes, which the library computes.
func sealed(b []byte) []byte {
	sum := crc64.Checksum(b, crc64.MakeTable(crc64.ECMA))
	return binary.LittleEndian.AppendUint64(bytes.Clone(b), sum)
}

// unsealed returns an image as promise 3.4 describes it, without its checksum.
func unsealed(lines uint16, up byte, words []uint64) []byte {
	b := append(binary.LittleEndian.AppendUint16([]byte("MEM1"), lines), up)
	for _, w := range words {
		b = binary.LittleEndian.AppendUint64(b, w)
	}
	return b
}

// some returns that many words without a short period; another seed gives other words.
func some(count int, seed uint64) []uint64 {
	words := make([]uint64, count)
	for i := range words {
		seed = seed*6364136223846793005 + 1442695040888963407
		words[i] = seed ^ seed>>29
	}
	return words
}

// Promise 3.4: the bytes, for every number of lines, up and down, and that Load reads them.
func TestImage(t *testing.T) {
	for lines := 1; lines <= api.MaxLines; lines++ {
		words := some(lines*api.LineWords, uint64(lines))
		n := made(t, lines)
		write(t, n, 0, words...)
		for _, up := range []byte{1, 0} {
			if up == 0 {
				n.Fail()
			}
			want := sealed(unsealed(uint16(lines), up, words))
			if got := n.Image(); !bytes.Equal(got, want) {
				t.Fatalf("%d lines, up %d: the image is %x; want %x", lines, up, got, want)
			}
			isLoaded(t, want, lines, up == 1, words)
		}
	}
}

// isLoaded fails the test unless Load returns a node with this image, state and contents.
func isLoaded(t *testing.T, image []byte, lines int, up bool, words []uint64) {
	t.Helper()
	n, code := memnode.Load(image)
	if n == nil || code != api.OK {
		t.Fatalf("Load of %d lines: %v", lines, code)
	}
	if n.Lines() != lines || !bytes.Equal(n.Image(), image) {
		t.Errorf("Load of %d lines has %d lines and the image %x", lines, n.Lines(), n.Image())
	}
	holds(t, n, up, words)
}

// Promise 3.4: words at the borders of bytes, a boot number that no node reaches by itself among them.
func TestLoadOfAnyWords(t *testing.T) {
	for bit := range 64 {
		for _, w := range []uint64{1 << bit, 1<<bit - 1, top - 1<<bit} {
			words := slices.Repeat([]uint64{w, w + 1}, 4)
			for up := range byte(2) {
				isLoaded(t, sealed(unsealed(1, up, words)), 1, up == 1, words)
			}
		}
	}
}

// Promise 3.4: a node that was loaded goes on like the one whose image it has.
func TestLoadedNodeGoesOn(t *testing.T) {
	n := filled(t, 2)
	write(t, n, 1, 4)
	n.Fail()
	loaded, code := memnode.Load(n.Image())
	if code != api.OK {
		t.Fatalf("Load: %v", code)
	}
	want := contents(t, n)
	if !loaded.Back() || loaded.Boot() != 5 {
		t.Errorf("the loaded node does not return")
	}
	if was, code := loaded.Add(15, 1); was != want[15] || code != api.OK {
		t.Errorf("Add = %d, %v", was, code)
	}
	want[1], want[15] = 5, want[15]+1
	holds(t, loaded, true, want)
	if n.Up() || n.Boot() != 4 {
		t.Errorf("the node whose image was loaded has changed too")
	}
}

// isCorrupt fails the test unless no node has this image.
func isCorrupt(t *testing.T, what string, image []byte) {
	t.Helper()
	before := bytes.Clone(image)
	if n, code := memnode.Load(image); n != nil || code != api.ErrCorrupt {
		t.Errorf("%s: Load of %d bytes: %v, %v", what, len(image), n, code)
	}
	if !bytes.Equal(image, before) {
		t.Errorf("%s: Load changed the image", what)
	}
}

// Promise 3.4: no node has the image with one bit changed.
func TestLoadOfChangedBits(t *testing.T) {
	for up := range byte(2) {
		image := sealed(unsealed(2, up, some(2*api.LineWords, 7)))
		for bit := range 8 * len(image) {
			other := bytes.Clone(image)
			other[bit/8] ^= 1 << (bit % 8)
			isCorrupt(t, "a changed bit", other)
		}
	}
}

// Promise 3.4: bytes with the right checksum that are no image.
func TestLoadOfSealedBytes(t *testing.T) {
	plain := unsealed(2, 1, some(2*api.LineWords, 8))
	isLoaded(t, sealed(plain), 2, true, some(2*api.LineWords, 8))
	for at := range 4 {
		for by := 1; by < 256; by++ {
			other := bytes.Clone(plain)
			other[at] += byte(by)
			isCorrupt(t, "another beginning", sealed(other))
		}
	}
	for up := 2; up < 256; up++ {
		isCorrupt(t, "neither up nor down", sealed(unsealed(2, byte(up), some(2*api.LineWords, 8))))
	}
	for _, by := range []int{1, 2, 7, 8, 56, 63, 64, 65, 128} {
		if by < len(plain) {
			isCorrupt(t, "too short", sealed(plain[:len(plain)-by]))
		}
		isCorrupt(t, "too long", sealed(append(bytes.Clone(plain), make([]byte, by)...)))
		isCorrupt(t, "too long behind the checksum", append(sealed(plain), make([]byte, by)...))
	}
}

// Promise 3.4: a number of lines that is not the one of the words, or that no node has, beside as many words.
func TestLoadOfAnotherNumberOfLines(t *testing.T) {
	for lines := range 1 << 16 {
		if lines != 2 {
			isCorrupt(t, "not 2 lines", sealed(unsealed(uint16(lines), 1, some(2*api.LineWords, 9))))
		}
	}
	for _, lines := range []int{0, api.MaxLines + 1, api.MaxLines + 2, 2 * api.MaxLines, 1<<16 - 1} {
		isCorrupt(t, "no node's lines", sealed(unsealed(uint16(lines), 1, make([]uint64, lines*api.LineWords))))
	}
}

// Promise 3.4: bytes that are too few, or no image at all.
func TestLoadOfOtherBytes(t *testing.T) {
	image := sealed(unsealed(1, 1, some(api.LineWords, 10)))
	for length := range image {
		isCorrupt(t, "the beginning of an image", image[:length])
		isCorrupt(t, "the end of an image", image[length+1:])
		isCorrupt(t, "zeros", make([]byte, length))
		if length != len(image)-8 { // sealed, all but the checksum is the image again
			isCorrupt(t, "the sealed beginning of an image", sealed(image[:length]))
		}
	}
	isCorrupt(t, "zeros", make([]byte, len(image)))
	isCorrupt(t, "ones", bytes.Repeat([]byte{255}, len(image)))
	isCorrupt(t, "nothing", nil)
}

// Promise 3.4: a copy has the same image, and neither node follows the other one afterwards.
func TestCopy(t *testing.T) {
	for _, lines := range []int{1, 2, api.MaxLines} {
		for _, up := range []bool{true, false} {
			n := filled(t, lines)
			write(t, n, 1, 3)
			if !up {
				n.Fail()
			}
			c := n.Copy()
			want := contents(t, n)
			if c.Lines() != lines || !bytes.Equal(c.Image(), n.Image()) {
				t.Errorf("%d lines, up %v: the copy has %d lines and the image %x", lines, up, c.Lines(), c.Image())
			}
			holds(t, c, up, want)
			goesOnAlone(t, n, c, up, want)
			goesOnAlone(t, c.Copy(), c, up, want)
		}
	}
}

// goesOnAlone changes everything of a node and fails the test if the other one is not as before.
func goesOnAlone(t *testing.T, n, other *memnode.Node, up bool, want []uint64) {
	t.Helper()
	if n.Up() {
		n.Fail()
	}
	if !n.Back() {
		t.Fatal("the node does not return")
	}
	for at := range want {
		n.Cas(at, want[at], 0)
		n.Add(at, 77)
	}
	holds(t, other, up, want)
	write(t, n, 0, make([]uint64, len(want))...)
	holds(t, other, up, want)
	if n.Fail(); other.Up() != up {
		t.Error("the other node is up or down like this one")
	}
}

// Rule R2: an image belongs to the caller, before Load and after Image.
func TestImagesAreCopied(t *testing.T) {
	n := filled(t, 2)
	want := contents(t, n)
	image := n.Image()
	loaded, code := memnode.Load(image)
	if code != api.OK {
		t.Fatalf("Load: %v", code)
	}
	clear(image)
	holds(t, n, true, want)
	holds(t, loaded, true, want)
	image = loaded.Image()
	before := bytes.Clone(image)
	write(t, loaded, 0, make([]uint64, 16)...)
	if !bytes.Equal(image, before) {
		t.Error("the image follows its node")
	}
	// An image need not end where its memory ends.
	long := append(bytes.Clone(before), 1, 2, 3)
	isLoaded(t, long[:len(before)], 2, true, want)
}
