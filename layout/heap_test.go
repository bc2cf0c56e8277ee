package layout_test

import (
	"testing"

	"bodega/api"
	"bodega/layout"
	"bodega/word"
)

// inHeap says what InHeap must return, by looking for the line among those of the heap.
func inHeap(line, lines int) bool {
	if lines < 98 || lines > 256 {
		return false
	}
	for at := 96; at < lines; at++ {
		if at == line {
			return true
		}
	}
	return false
}

// Promise 7.1: InHeap at and beside all limits, with every number of lines.
func TestInHeap(t *testing.T) {
	for lines := -3; lines <= api.MaxLines+3; lines++ {
		for line := -3; line <= api.MaxLines+3; line++ {
			if got := layout.InHeap(line, lines); got != inHeap(line, lines) {
				t.Errorf("InHeap(%d, %d) = %v", line, lines, got)
			}
		}
	}
}

// Promise 7.1: InHeap at its limits, written out.
func TestInHeapAtTheLimits(t *testing.T) {
	for _, x := range []struct {
		line, lines int
		want        bool
	}{
		{96, 98, true}, {97, 98, true}, {98, 98, false}, {95, 98, false},
		{96, 97, false}, {96, 96, false}, {96, 95, false}, {0, 98, false}, {-1, 98, false},
		{96, 256, true}, {255, 256, true}, {256, 256, false}, {95, 256, false},
		{96, 257, false}, {255, 257, false}, {256, 257, false},
	} {
		if got := layout.InHeap(x.line, x.lines); got != x.want {
			t.Errorf("InHeap(%d, %d) = %v", x.line, x.lines, got)
		}
	}
}

// Promise 7.1, rule R1: InHeap far out of range.
func TestInHeapFarOutOfRange(t *testing.T) {
	for _, x := range far() {
		for _, y := range append(far(), 96, 98, 255, 256) {
			if layout.InHeap(x, y) || layout.InHeap(y, x) {
				t.Errorf("InHeap(%d, %d) = %v, InHeap(%d, %d) = %v", x, y, layout.InHeap(x, y), y, x, layout.InHeap(y, x))
			}
		}
	}
}

// Promise 7.1: InHeap and Page agree: with the most lines, exactly the lines of the heap have a page.
func TestInHeapAgreesWithPage(t *testing.T) {
	for line := -3; line <= api.MaxLines+3; line++ {
		if got := layout.InHeap(line, api.MaxLines); got != (layout.Page(line) != -1) {
			t.Errorf("InHeap(%d, %d) = %v, Page is %d", line, api.MaxLines, got, layout.Page(line))
		}
	}
}

// Promise 7.1: Words of every number of lines, also of those below MinLines.
func TestWords(t *testing.T) {
	want := 0
	for lines := 1; lines <= api.MaxLines; lines++ {
		want += 8
		if got := layout.Words(lines); got != want {
			t.Errorf("Words(%d) = %d; want %d", lines, got, want)
		}
	}
	if layout.Words(1) != 8 || layout.Words(98) != 784 || layout.Words(256) != 2048 {
		t.Errorf("Words of 1, 98 and 256 lines: %d, %d, %d", layout.Words(1), layout.Words(98), layout.Words(256))
	}
}

// Promise 7.1, rule R1: Words of no lines and of numbers of lines that no node has.
func TestWordsOutOfRange(t *testing.T) {
	for _, lines := range append(far(), 0, -1, -2, 257, 258, 2048) {
		if got := layout.Words(lines); got != 0 {
			t.Errorf("Words(%d) = %d; want 0", lines, got)
		}
	}
}

// Promise 7.2: the value of every number of memory nodes, written out.
func TestInitialValue(t *testing.T) {
	for i, want := range []uint64{0x80_0000_0007, 0x80_0000_0387, 0x80_0001_C387, 0x80_00E1_C387, 0x80_70E1_C387} {
		if got, code := layout.InitialValue(i + 1); got != want || code != api.OK {
			t.Errorf("InitialValue(%d) = %#x, %v; want %#x", i+1, got, code, want)
		}
	}
}

// Promise 7.2: each bit of the value, as the chapter names them.
func TestInitialValueBits(t *testing.T) {
	for nodes := 1; nodes <= api.MaxNodes; nodes++ {
		value, _ := layout.InitialValue(nodes)
		for bit := range 64 {
			node, part := bit/7, bit%7
			want := bit == 39 || node < nodes && part <= 2
			if got := value>>bit&1 == 1; got != want {
				t.Errorf("bit %d of InitialValue(%d) is %v", bit, nodes, got)
			}
		}
	}
}

// Promise 7.2: the value fits into a consensus word and comes out of it again.
func TestInitialValueFitsAConsensusWord(t *testing.T) {
	for nodes := 1; nodes <= api.MaxNodes; nodes++ {
		value, _ := layout.InitialValue(nodes)
		w, code := word.Consensus(1, 1, value)
		if promise, accepted, again := word.SplitConsensus(w); code != api.OK || promise != 1 || accepted != 1 || again != value {
			t.Errorf("the consensus word of InitialValue(%d) is %#x, %v", nodes, w, code)
		}
	}
}

// Promise 7.2, rules R1 and R4: ErrRange, and no value, of every other number.
func TestInitialValueOutOfRange(t *testing.T) {
	for _, nodes := range append(far(), 0, -1, -2, 6, 7, 8, 9, 10, 64) {
		if got, code := layout.InitialValue(nodes); got != 0 || code != api.ErrRange {
			t.Errorf("InitialValue(%d) = %#x, %v; want 0, %v", nodes, got, code, api.ErrRange)
		}
	}
}
