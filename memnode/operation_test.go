package memnode_test

import (
	"slices"
	"testing"

	"bodega/api"
	"bodega/memnode"
)

// Promise 3.2: every range of a node, also beside the borders of lines.
func TestRead(t *testing.T) {
	n := filled(t, 3)
	all := contents(t, n)
	for at := range all {
		for count := 1; count <= len(all)-at; count++ {
			got, code := n.Read(at, count)
			if code != api.OK || !slices.Equal(got, all[at:at+count]) {
				t.Errorf("Read(%d, %d) = %v, %v; want %v", at, count, got, code, all[at:at+count])
			}
		}
	}
	holds(t, n, true, all)
}

// Promise 3.2: every range of a node; the words beside it stay.
func TestWrite(t *testing.T) {
	before := filled(t, 3)
	for at := range 24 {
		for count := 1; count <= 24-at; count++ {
			want := contents(t, before)
			words := make([]uint64, count)
			for i := range words {
				words[i] = uint64(1000*at + i)
				want[at+i] = words[i]
			}
			n := before.Copy()
			write(t, n, at, words...)
			holds(t, n, true, want)
		}
	}
}

// Promise 3.2: a whole node of the greatest size at once.
func TestWholeNode(t *testing.T) {
	n := made(t, api.MaxLines)
	words := make([]uint64, api.MaxLines*api.LineWords)
	for i := range words {
		words[i] = top - uint64(i)
	}
	write(t, n, 0, words...)
	holds(t, n, true, words)
}

// Promise 3.2: at every address, with the word as expected, and with another one.
func TestCas(t *testing.T) {
	n := filled(t, 2)
	want := contents(t, n)
	for at := range want {
		for _, next := range []uint64{0, 1, want[at], 1 << 63, top} {
			for _, old := range []uint64{want[at] + 1, want[at] - 1, want[at] ^ 1<<63, want[at]} {
				was, code := n.Cas(at, old, next)
				if was != want[at] || code != api.OK {
					t.Errorf("Cas(%d, %#x, %#x) = %#x, %v; want %#x", at, old, next, was, code, want[at])
				}
				if old == want[at] {
					want[at] = next
				}
				holds(t, n, true, want)
			}
		}
	}
}

// Promise 3.2: at every address; sums that are 2^64 and more begin at 0 again.
func TestAdd(t *testing.T) {
	n := filled(t, 2)
	want := contents(t, n)
	for at := range want {
		for _, by := range []uint64{0, 1, 1 << 32, 1 << 63, top - want[at], top, 1, 2} {
			was, code := n.Add(at, by)
			if was != want[at] || code != api.OK {
				t.Errorf("Add(%d, %#x) = %#x, %v; want %#x", at, by, was, code, want[at])
			}
			want[at] += by
			holds(t, n, true, want)
		}
	}
}

// refused fails the test unless all four operations return the code, and nothing beside it.
func refused(t *testing.T, n *memnode.Node, at, count int, want api.Errno) {
	t.Helper()
	if words, code := n.Read(at, count); len(words) != 0 || code != want {
		t.Errorf("up %v: Read(%d, %d) = %v, %v; want %v", n.Up(), at, count, words, code, want)
	}
	if count >= 0 && count <= 1<<16 {
		if code := n.Write(at, make([]uint64, count)); code != want {
			t.Errorf("up %v: Write(%d, %d words): %v; want %v", n.Up(), at, count, code, want)
		}
	}
	if count != 1 {
		return
	}
	if was, code := n.Cas(at, 0, 1); was != 0 || code != want {
		t.Errorf("up %v: Cas(%d) = %d, %v; want %v", n.Up(), at, was, code, want)
	}
	if was, code := n.Add(at, 1); was != 0 || code != want {
		t.Errorf("up %v: Add(%d) = %d, %v; want %v", n.Up(), at, was, code, want)
	}
}

func outOfRange(t *testing.T, n *memnode.Node, at, count int) {
	t.Helper()
	refused(t, n, at, count, api.ErrRange)
}

// Promise 3.2: ranges that do not lie within the node. ErrRange comes before ErrGone; nothing changes.
func TestOutOfRange(t *testing.T) {
	for _, lines := range []int{1, 2} {
		size := lines * api.LineWords
		n := filled(t, lines)
		want := contents(t, n)
		for _, up := range []bool{true, false} {
			if !up {
				n.Fail()
			}
			for _, at := range edgeInts() {
				for _, count := range edgeInts() {
					if count >= 1 && count <= size && at >= 0 && at <= size-count {
						continue
					}
					outOfRange(t, n, at, count)
				}
			}
			holds(t, n, up, want)
		}
	}
}

// Promise 3.2: the end of the greatest node, up and down.
func TestEndOfTheGreatestNode(t *testing.T) {
	const size = api.MaxLines * api.LineWords
	n := made(t, api.MaxLines)
	write(t, n, size-1, 5)
	for range 2 {
		outOfRange(t, n, size, 1)
		outOfRange(t, n, size-1, 2)
		outOfRange(t, n, 0, size+1)
		outOfRange(t, n, 1, size)
		n.Fail()
	}
}

// Promise 3.2: every address of a node that is down; nothing changes, and nothing has changed when it is back.
func TestGone(t *testing.T) {
	n := filled(t, 2)
	write(t, n, 1, 8)
	want := contents(t, n)
	n.Fail()
	for at := range want {
		for count := 1; count <= len(want)-at; count++ {
			refused(t, n, at, count, api.ErrGone)
		}
		// A word that is as expected, so that the operation would succeed on a node that is up.
		if was, code := n.Cas(at, want[at], 1); was != 0 || code != api.ErrGone {
			t.Errorf("Cas(%d) = %d, %v", at, was, code)
		}
	}
	holds(t, n, false, want)
	if !n.Back() {
		t.Fatal("the node does not return")
	}
	want[1] = 9
	holds(t, n, true, want)
}

// Rule R2: what a caller does with its slices afterwards does not matter to the node, nor the other way round.
func TestSlicesAreCopied(t *testing.T) {
	n := made(t, 2)
	in := []uint64{1, 2, 3, 4, 5}
	write(t, n, 3, in[:3]...)
	if code := n.Write(6, in[3:4]); code != api.OK || !slices.Equal(in, []uint64{1, 2, 3, 4, 5}) {
		t.Errorf("Write: %v, and the words are %v", code, in)
	}
	clear(in)
	want := []uint64{0, 0, 0, 1, 2, 3, 4, 0, 0, 0, 0, 0, 0, 0, 0, 0}
	holds(t, n, true, want)
	out, _ := n.Read(3, 2)
	other, _ := n.Read(3, 2)
	// Growing what was read must not reach the words behind it either.
	clear(append(out, 9))
	clear(out)
	holds(t, n, true, want)
	write(t, n, 3, 7, 7)
	if !slices.Equal(other, []uint64{1, 2}) {
		t.Errorf("what was read is now %v", other)
	}
}
