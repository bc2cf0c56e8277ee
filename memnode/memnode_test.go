package memnode_test

import (
	"go/build"
	"slices"
	"strings"
	"testing"

	"bodega/api"
	"bodega/memnode"
)

const (
	top    = 1<<64 - 1
	maxInt = 1<<63 - 1
	minInt = -1 << 63
)

// made returns a new node.
func made(t *testing.T, lines int) *memnode.Node {
	t.Helper()
	n, code := memnode.New(lines)
	if n == nil || code != api.OK {
		t.Fatalf("New(%d): %v", lines, code)
	}
	return n
}

// filled returns a node each of whose words has another value.
func filled(t *testing.T, lines int) *memnode.Node {
	t.Helper()
	n := made(t, lines)
	for at := range lines * api.LineWords {
		write(t, n, at, uint64(at+3)*0x9E37_79B9_7F4A_7C15)
	}
	return n
}

// write writes words that must be accepted.
func write(t *testing.T, n *memnode.Node, at int, words ...uint64) {
	t.Helper()
	if code := n.Write(at, words); code != api.OK {
		t.Fatalf("Write(%d, %d words): %v", at, len(words), code)
	}
}

// contents returns all words of the node, also of one that is down.
func contents(t *testing.T, n *memnode.Node) []uint64 {
	t.Helper()
	image := n.Image()
	if len(image) != 15+64*n.Lines() {
		t.Fatalf("the image of %d lines has %d bytes", n.Lines(), len(image))
	}
	var words []uint64
	for at := 7; at < len(image)-8; at += 8 {
		words = append(words, fromBytes(image[at:at+8]))
	}
	if !n.Up() {
		return words
	}
	if read, code := n.Read(0, len(words)); code != api.OK || !slices.Equal(read, words) {
		t.Fatalf("Read returns %v, %v; the image holds %v", read, code, words)
	}
	return words
}

// holds fails the test unless these are all words of the node, and the node is up or down as wanted.
func holds(t *testing.T, n *memnode.Node, up bool, want []uint64) {
	t.Helper()
	if n.Up() != up || n.Boot() != want[1] {
		t.Errorf("up %v, boot number %d; want %v, %d", n.Up(), n.Boot(), up, want[1])
	}
	if got := contents(t, n); !slices.Equal(got, want) {
		t.Errorf("the node holds %v; want %v", got, want)
	}
}

// edgeInts are addresses and counts at and beside the borders of nodes of few lines, and far away.
func edgeInts() []int {
	ints := []int{minInt, minInt + 1, -1 << 32, -1 << 31, -256, 1 << 31, 1<<32 - 1, 1 << 32, 1 << 60, 1 << 61, 1 << 62}
	for by := range 20 {
		ints = append(ints, by-3, maxInt-by)
	}
	return ints
}

// Promise 3.1: every number of lines that a node may have.
func TestNew(t *testing.T) {
	for lines := 1; lines <= api.MaxLines; lines++ {
		n := made(t, lines)
		if n.Lines() != lines {
			t.Errorf("New(%d) has %d lines", lines, n.Lines())
		}
		holds(t, n, true, make([]uint64, lines*api.LineWords))
	}
}

// Promise 3.1: every other number.
func TestNewWithoutLines(t *testing.T) {
	for _, lines := range append(edgeInts(), api.MaxLines+1, api.MaxLines+2, 1<<16, 1<<16+1, 1<<32+1) {
		if lines >= 1 && lines <= api.MaxLines {
			continue
		}
		if n, code := memnode.New(lines); n != nil || code != api.ErrRange {
			t.Errorf("New(%d): %v, %v", lines, n, code)
		}
	}
}

// Promise 3.1: the boot number is word 1, whatever changed it, and whether the node is up or not.
func TestBoot(t *testing.T) {
	n := filled(t, 2)
	for _, boot := range []uint64{0, 1, 2, api.MaxBoot - 1, api.MaxBoot, api.MaxBoot + 1, 1 << 31, 1 << 63, top} {
		write(t, n, 1, boot)
		if n.Boot() != boot {
			t.Errorf("Boot = %d; word 1 is %d", n.Boot(), boot)
		}
		n.Add(1, 7)
		if n.Boot() != boot+7 {
			t.Errorf("Boot = %d; word 1 is %d", n.Boot(), boot+7)
		}
		n.Cas(1, boot+7, boot+5)
		down := n.Copy()
		down.Fail()
		if n.Boot() != boot+5 || down.Boot() != boot+5 {
			t.Errorf("Boot = %d, down %d; word 1 is %d", n.Boot(), down.Boot(), boot+5)
		}
	}
}

// Promises 3.1 and 3.3: Up and Lines along a life.
func TestUp(t *testing.T) {
	n := made(t, 3)
	for range 4 {
		n.Fail()
		if n.Up() || n.Lines() != 3 {
			t.Errorf("down: Up = %v, Lines = %d", n.Up(), n.Lines())
		}
		n.Fail()
		if n.Up() {
			t.Error("up after Fail of a node that was down")
		}
		if !n.Back() || !n.Up() || n.Lines() != 3 {
			t.Errorf("back: Up = %v, Lines = %d", n.Up(), n.Lines())
		}
	}
}

// Promise 3.3: Fail changes no word.
func TestFail(t *testing.T) {
	n := filled(t, 3)
	want := contents(t, n)
	for range 3 {
		n.Fail()
		holds(t, n, false, want)
	}
}

// Promise 3.3: every boot number that a node may have, and greater ones.
func TestBack(t *testing.T) {
	boots := []uint64{1<<31 - 1, 1 << 31, 1<<32 - 1, 1 << 32, 1<<63 - 1, 1 << 63, top - 1, top}
	for boot := range uint64(2 * api.MaxBoot) {
		boots = append(boots, boot)
	}
	for _, boot := range boots {
		n := filled(t, 2)
		write(t, n, 1, boot)
		want := contents(t, n)
		if n.Back() {
			t.Errorf("boot number %d: Back of a node that is up", boot)
		}
		holds(t, n, true, want)
		n.Fail()
		back := n.Back()
		if back != (boot < api.MaxBoot) {
			t.Errorf("boot number %d: Back = %v", boot, back)
		}
		if back {
			want[1]++
		}
		holds(t, n, back, want)
		if n.Back() {
			t.Errorf("boot number %d: Back, and Back again", boot)
		}
		holds(t, n, back, want)
	}
}

// Promise 3.3: a node returns as often as there are boot numbers.
func TestBackUntilTheLastBoot(t *testing.T) {
	n := filled(t, 1)
	write(t, n, 1, 0)
	want := contents(t, n)
	for boot := 1; boot <= api.MaxBoot; boot++ {
		n.Fail()
		if !n.Back() {
			t.Fatalf("no return with boot number %d", boot)
		}
		want[1] = uint64(boot)
		holds(t, n, true, want)
	}
	n.Fail()
	for range 3 {
		if n.Back() {
			t.Fatalf("a return with boot number %d", n.Boot())
		}
	}
	holds(t, n, false, want)
}

// The example of chapter 3.
func TestExample(t *testing.T) {
	n := made(t, 1)
	if was, code := n.Cas(0, 0, 5); was != 0 || code != api.OK {
		t.Errorf("Cas(0, 0, 5) = %d, %v", was, code)
	}
	if was, code := n.Cas(0, 0, 6); was != 5 || code != api.OK {
		t.Errorf("Cas(0, 0, 6) = %d, %v", was, code)
	}
	if words, code := n.Read(0, 1); !slices.Equal(words, []uint64{5}) || code != api.OK {
		t.Errorf("Read(0, 1) = %v, %v", words, code)
	}
}

// A Node that was never made has no words; its methods do not panic (rule R1).
func TestNodeThatWasNeverMade(t *testing.T) {
	for range 2 {
		n := new(memnode.Node)
		if n.Lines() != 0 || n.Up() || n.Boot() != 0 || n.Back() {
			t.Errorf("lines %d, up %v, boot number %d", n.Lines(), n.Up(), n.Boot())
		}
		n.Fail()
		for _, at := range edgeInts() {
			outOfRange(t, n, at, 1)
		}
		if c, code := memnode.Load(n.Copy().Image()); c != nil || code != api.ErrCorrupt {
			t.Errorf("Load: %v, %v", c, code)
		}
	}
}

// Package memnode uses packages api and crc, and what the language's rules allow.
func TestImports(t *testing.T) {
	folder, err := build.ImportDir(".", 0)
	if err != nil || len(folder.GoFiles) == 0 {
		t.Fatalf("the files %q: %v", folder.GoFiles, err)
	}
	for _, path := range folder.Imports {
		if strings.HasPrefix(path, "bodega/") && path != "bodega/api" && path != "bodega/crc" {
			t.Errorf("the files %q import %q", folder.GoFiles, path)
		}
	}
}
