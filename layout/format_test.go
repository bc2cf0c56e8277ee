package layout_test

import (
	"bytes"
	"slices"
	"testing"

	"bodega/api"
	"bodega/fabric"
	"bodega/layout"
	"bodega/memnode"
)

// heapOf returns the words of the heap of a formatted node.
func heapOf(lines int) []uint64 {
	var words []uint64
	for range lines - 96 {
		words = append(words, 0x100, 0, 0, 0, 0, 0, 0, 0)
	}
	return words
}

// wanted returns the words of a formatted node, line after line as the chapter describes them.
func wanted(lines int, value uint64) []uint64 {
	words := []uint64{1, 1, 0, 0, 0, 0, 0, 0}                     // the view key and the boot number
	words = append(words, 1<<52|1<<40|value, 0, 0, 0, 0, 0, 0, 0) // the consensus words
	words = append(words, 0, 0, 0, 0, 0, 0, 0, 0)                 // the others of them
	words = append(words, 1, 1, 1, 1, 1, 1, 0, 0)                 // the doors
	words = append(words, make([]uint64, 8+8+6*15*8)...)          // the clocks, the leases and the logs
	return append(words, heapOf(lines)...)                        // the pages
}

// values are those of view 0, by the number of memory nodes.
func values(nodes int) uint64 {
	return [...]uint64{0, 0x80_0000_0007, 0x80_0000_0387, 0x80_0001_C387, 0x80_00E1_C387, 0x80_70E1_C387}[nodes]
}

// node returns a new memory node.
func node(t *testing.T, lines int) *memnode.Node {
	t.Helper()
	n, code := memnode.New(lines)
	if n == nil || code != api.OK {
		t.Fatalf("memnode.New(%d): %v", lines, code)
	}
	return n
}

// used returns a memory node all words of which are other ones than those of a formatted node.
func used(t *testing.T, lines int) *memnode.Node {
	t.Helper()
	n := node(t, lines)
	soil(t, n)
	return n
}

// soil overwrites all words of a node.
func soil(t *testing.T, n *memnode.Node) {
	t.Helper()
	words := make([]uint64, n.Lines()*8)
	for i := range words {
		words[i] = 0xDEAD_0000_0000_0003 + uint64(i)<<16
	}
	words[1] = 7 // a boot number
	if code := n.Write(0, words); code != api.OK {
		t.Fatalf("Write: %v", code)
	}
}

// contents returns all words of a node that is up.
func contents(t *testing.T, n *memnode.Node) []uint64 {
	t.Helper()
	words, code := n.Read(0, n.Lines()*8)
	if code != api.OK {
		t.Fatalf("Read: %v", code)
	}
	return words
}

// holds fails the test unless the node is up and holds the words.
func holds(t *testing.T, n *memnode.Node, want []uint64) {
	t.Helper()
	got := contents(t, n)
	if len(got) != len(want) {
		t.Fatalf("the node has %d words; want %d", len(got), len(want))
	}
	for at, w := range got {
		if w != want[at] {
			t.Errorf("word %d is %#x; want %#x", at, w, want[at])
		}
	}
}

// refuses fails the test unless Format returns the code and leaves the node as it is.
func refuses(t *testing.T, n *memnode.Node, nodes int, want api.Errno) {
	t.Helper()
	before := n.Image()
	if code := layout.Format(n, nodes); code != want {
		t.Errorf("Format of %d lines (up: %v) for %d memory nodes: %v; want %v", n.Lines(), n.Up(), nodes, code, want)
	}
	if !bytes.Equal(n.Image(), before) {
		t.Errorf("Format of %d lines (up: %v) for %d memory nodes has changed the node", n.Lines(), n.Up(), nodes)
	}
}

// Promise 7.3: all words of a new node, at the least, at the greatest and at another number of lines, for every number
// of memory nodes.
func TestFormat(t *testing.T) {
	for _, lines := range []int{98, 99, 150, 255, 256} {
		for nodes := 1; nodes <= 5; nodes++ {
			n := node(t, lines)
			if code := layout.Format(n, nodes); code != api.OK {
				t.Errorf("Format of %d lines for %d memory nodes: %v", lines, nodes, code)
			}
			holds(t, n, wanted(lines, values(nodes)))
		}
	}
}

// Promise 7.3: no word of what the node held before is left, the boot number included.
func TestFormatOfAUsedNode(t *testing.T) {
	for _, lines := range []int{98, 256} {
		for nodes := 1; nodes <= 5; nodes++ {
			n := used(t, lines)
			if code := layout.Format(n, nodes); code != api.OK {
				t.Errorf("Format of %d lines for %d memory nodes: %v", lines, nodes, code)
			}
			holds(t, n, wanted(lines, values(nodes)))
			if n.Boot() != 1 || n.Lines() != lines || !n.Up() {
				t.Errorf("boot number %d, %d lines, up: %v", n.Boot(), n.Lines(), n.Up())
			}
		}
	}
}

// Promise 7.3: a node that was formatted for another number of memory nodes, and one that came back, are formatted anew.
func TestFormatAgain(t *testing.T) {
	n := node(t, api.MinLines)
	for _, nodes := range []int{5, 1, 3, 3} {
		n.Fail()
		n.Back()
		if code := layout.Format(n, nodes); code != api.OK {
			t.Errorf("Format for %d memory nodes: %v", nodes, code)
		}
		holds(t, n, wanted(api.MinLines, values(nodes)))
	}
	// The node counts its boot number on from the formatted one.
	n.Fail()
	if !n.Back() || n.Boot() != 2 {
		t.Errorf("the boot number after the node came back is %d", n.Boot())
	}
}

// Promise 7.3, rules R1 and R4: each error of Format, and what Format leaves of the node.
func TestFormatErrors(t *testing.T) {
	for _, nodes := range append(far(), 0, -1, 6, 7) {
		refuses(t, used(t, api.MinLines), nodes, api.ErrArg)
	}
	for _, lines := range []int{1, 2, 12, 95, 96, 97} {
		refuses(t, used(t, lines), 3, api.ErrLimit)
	}
	for _, lines := range []int{98, 256} {
		n := used(t, lines)
		n.Fail()
		refuses(t, n, 3, api.ErrGone)
		if n.Up() {
			t.Errorf("Format has brought the node up")
		}
	}
}

// Promise 7.3, rule R5: the first error of the list where two or three of them apply.
func TestFormatOrderOfErrors(t *testing.T) {
	for _, nodes := range []int{minInt, -1, 0, 6, maxInt} {
		refuses(t, used(t, 97), nodes, api.ErrArg)
		small, large := used(t, 97), used(t, 98)
		small.Fail()
		large.Fail()
		refuses(t, small, nodes, api.ErrArg)
		refuses(t, large, nodes, api.ErrArg)
	}
	for _, lines := range []int{1, 97} {
		n := used(t, lines)
		n.Fail()
		refuses(t, n, 1, api.ErrLimit)
	}
}

// Rule R1: a node that memnode.New has not made has no lines.
func TestFormatOfAZeroNode(t *testing.T) {
	refuses(t, new(memnode.Node), 3, api.ErrLimit)
	refuses(t, new(memnode.Node), 0, api.ErrArg)
}

// Rule R2: what is done to a formatted node is not seen in another one.
func TestFormatSharesNothing(t *testing.T) {
	one, other := node(t, api.MinLines), node(t, api.MinLines)
	layout.Format(one, 3)
	layout.Format(other, 3)
	soil(t, one)
	holds(t, other, wanted(api.MinLines, values(3)))
	layout.Format(one, 3)
	if !slices.Equal(contents(t, one), contents(t, other)) {
		t.Errorf("Format of a used node differs from that of a new one")
	}
}

// cluster returns a fabric whose memory nodes all hold other words.
func cluster(t *testing.T, nodes, clients, lines int) *fabric.Fabric {
	t.Helper()
	f, code := fabric.New(nodes, clients, lines)
	if f == nil || code != api.OK {
		t.Fatalf("fabric.New(%d, %d, %d): %v", nodes, clients, lines, code)
	}
	for i := range nodes {
		soil(t, f.Node(i))
	}
	return f
}

// images returns the images of all memory nodes.
func images(f *fabric.Fabric) [][]byte {
	var l [][]byte
	for i := range f.Nodes() {
		l = append(l, f.Node(i).Image())
	}
	return l
}

// Promise 7.3: FormatAll formats every memory node for the fabric's number of nodes, not of compute nodes or lines.
func TestFormatAll(t *testing.T) {
	for nodes := 1; nodes <= 5; nodes++ {
		for _, lines := range []int{98, 101, 256} {
			for _, clients := range []int{1, 6} {
				f := cluster(t, nodes, clients, lines)
				if code := layout.FormatAll(f); code != api.OK {
					t.Errorf("FormatAll of %d memory nodes of %d lines: %v", nodes, lines, code)
				}
				for i := range nodes {
					holds(t, f.Node(i), wanted(lines, values(nodes)))
				}
			}
		}
	}
}

// Promise 7.3: FormatAll with each set of memory nodes down: those before the first of them are formatted, the others,
// also those behind it that are up, are as they were.
func TestFormatAllWithNodesDown(t *testing.T) {
	const nodes = 5
	for down := 1; down < 1<<nodes; down++ {
		f := cluster(t, nodes, 2, api.MinLines)
		for i := range nodes {
			if down>>i&1 == 1 {
				f.Node(i).Fail()
			}
		}
		before := images(f)
		if code := layout.FormatAll(f); code != api.ErrGone {
			t.Errorf("FormatAll with the nodes %05b down: %v", down, code)
		}
		failed := false
		for i := range nodes {
			failed = failed || down>>i&1 == 1
			if failed && !bytes.Equal(f.Node(i).Image(), before[i]) {
				t.Errorf("with the nodes %05b down node %d has changed", down, i)
			}
			if !failed {
				holds(t, f.Node(i), wanted(api.MinLines, values(nodes)))
			}
		}
	}
}

// Promise 7.3: FormatAll of memory nodes with too few lines, where one of them is down too.
func TestFormatAllOfSmallNodes(t *testing.T) {
	for _, lines := range []int{1, 97} {
		f := cluster(t, 3, 1, lines)
		f.Node(0).Fail()
		before := images(f)
		if code := layout.FormatAll(f); code != api.ErrLimit {
			t.Errorf("FormatAll of %d lines: %v; want %v", lines, code, api.ErrLimit)
		}
		for i, image := range images(f) {
			if !bytes.Equal(image, before[i]) {
				t.Errorf("FormatAll of %d lines has changed node %d", lines, i)
			}
		}
	}
}

// Promise 7.3: FormatAll can be called again when the node that was down is back.
func TestFormatAllAgain(t *testing.T) {
	f := cluster(t, 3, 1, api.MinLines)
	f.Node(1).Fail()
	if code := layout.FormatAll(f); code != api.ErrGone {
		t.Errorf("FormatAll with node 1 down: %v", code)
	}
	f.Node(1).Back()
	if code := layout.FormatAll(f); code != api.OK {
		t.Errorf("FormatAll: %v", code)
	}
	for i := range 3 {
		holds(t, f.Node(i), wanted(api.MinLines, values(3)))
	}
}

// Promise 7.3: FormatAll changes nothing of the fabric but the memory nodes.
func TestFormatAllLeavesTheComputeNodes(t *testing.T) {
	f := cluster(t, 2, 3, api.MinLines)
	f.Post(0, []api.Verb{{Kind: api.Write, Node: 1, At: 770, Words: []uint64{5}}})
	f.Post(1, []api.Verb{{Kind: api.Write, Node: 0, At: 771, Words: []uint64{6}}})
	f.Die(1)
	before := f.Choices()
	if code := layout.FormatAll(f); code != api.OK {
		t.Errorf("FormatAll: %v", code)
	}
	if !slices.Equal(f.Choices(), before) || f.Waiting(0) != 1 || f.Alive(1) || !f.Alive(2) || f.Inc(2) != 1 {
		t.Errorf("FormatAll has changed the compute nodes: %v", f.Choices())
	}
	for i := range 2 {
		holds(t, f.Node(i), wanted(api.MinLines, values(2)))
	}
}

// Rule R1: a fabric that fabric.New has not made has no memory nodes.
func TestFormatAllOfAZeroFabric(t *testing.T) {
	if code := layout.FormatAll(new(fabric.Fabric)); code != api.OK {
		t.Errorf("FormatAll: %v", code)
	}
}

// Promises 7.1 to 7.3: a formatted fabric serves verbs at these addresses: the door admits incarnation 1 of every compute
// node, the boot number is 1 and the key is that of the open view 0; a verb with the key of the closed view is refused.
func TestFormattedFabricServes(t *testing.T) {
	f := cluster(t, 2, 6, api.MinLines)
	layout.FormatAll(f)
	for client := range 6 {
		batch := []api.Verb{
			{Kind: api.Read, Node: 1, At: layout.Page(api.LineHeap), N: 8, Key: 1, Boot: 1},
			{Kind: api.Add, Node: 1, At: layout.Clock(client), New: 1, Key: 1, Boot: 1},
			{Kind: api.Cas, Node: 1, At: layout.Lease(client), New: 9, Key: 1, Boot: 1},
			{Kind: api.Read, Node: 1, At: layout.Lease(client), N: 1, Boot: 1},
		}
		if code := f.Post(client, batch); code != api.OK {
			t.Fatalf("Post: %v", code)
		}
		for f.Step(fabric.Choice{Orphan: -1, Client: client, Node: 1}) {
		}
		got, ok := f.Take(client)
		if !ok || len(got) != 4 || !slices.Equal(got[0].Words, heapOf(97)) || !slices.Equal(got[1].Words, []uint64{0}) ||
			!slices.Equal(got[2].Words, []uint64{0}) || got[3].Code != api.ErrRefused {
			t.Errorf("compute node %d: %v, %v", client, got, ok)
		}
	}
}
