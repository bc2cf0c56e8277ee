package fabric_test

import (
	"bytes"
	"go/build"
	"slices"
	"testing"

	"bodega/api"
	"bodega/fabric"
	"bodega/memnode"
)

const (
	maxInt = 1<<63 - 1
	minInt = -1 << 63
	lines  = 8 // of the memory nodes of usual
)

// made returns a new fabric.
func made(t *testing.T, nodes, clients, lines int) *fabric.Fabric {
	t.Helper()
	f, code := fabric.New(nodes, clients, lines)
	if f == nil || code != api.OK {
		t.Fatalf("New(%d, %d, %d): %v", nodes, clients, lines, code)
	}
	return f
}

// usual returns a new fabric of three memory nodes and three compute nodes. Its memory nodes admit all verbs of the
// functions below.
func usual(t *testing.T) *fabric.Fabric {
	t.Helper()
	return made(t, 3, 3, lines)
}

// reads, writes, cas and add return verbs with Key 0 and Boot 0.
func reads(node, at, count int) api.Verb {
	return api.Verb{Kind: api.Read, Node: node, At: at, N: count}
}

func writes(node, at int, words ...uint64) api.Verb {
	return api.Verb{Kind: api.Write, Node: node, At: at, Words: words}
}

func cas(node, at int, old, new uint64) api.Verb {
	return api.Verb{Kind: api.Cas, Node: node, At: at, Old: old, New: new}
}

func add(node, at int, by uint64) api.Verb {
	return api.Verb{Kind: api.Add, Node: node, At: at, New: by}
}

// counted returns the words from 1 to count.
func counted(count int) []uint64 {
	words := make([]uint64, count)
	for i := range words {
		words[i] = uint64(i + 1)
	}
	return words
}

// live names a live pair.
func live(client, node int) fabric.Choice {
	return fabric.Choice{Orphan: -1, Client: client, Node: node}
}

// orphan names an orphan.
func orphan(i int) fabric.Choice {
	return fabric.Choice{Orphan: i}
}

// orphanOf is an orphan as Choices returns it.
func orphanOf(i, client, node int) fabric.Choice {
	return fabric.Choice{Orphan: i, Client: client, Node: node}
}

// post posts a batch that must be accepted.
func post(t *testing.T, f *fabric.Fabric, client int, l ...api.Verb) {
	t.Helper()
	if code := f.Post(client, l); code != api.OK {
		t.Fatalf("Post(%d, %+v): %v", client, l, code)
	}
}

// steps executes a piece of each of the pairs, which must have one.
func steps(t *testing.T, f *fabric.Fabric, l ...fabric.Choice) {
	t.Helper()
	for _, c := range l {
		if !f.Step(c) {
			t.Fatalf("Step(%+v): there is no piece", c)
		}
	}
}

// times returns that many choices of one pair.
func times(count int, c fabric.Choice) []fabric.Choice {
	return slices.Repeat([]fabric.Choice{c}, count)
}

// finish executes pieces, the last of the choices first, until none is left.
func finish(t *testing.T, f *fabric.Fabric) {
	t.Helper()
	for l := f.Choices(); len(l) > 0; l = f.Choices() {
		steps(t, f, l[len(l)-1])
	}
}

// die lets a compute node die.
func die(t *testing.T, f *fabric.Fabric, client int) {
	t.Helper()
	if !f.Die(client) {
		t.Fatalf("Die(%d): it is not alive", client)
	}
}

// restart restarts a compute node.
func restart(t *testing.T, f *fabric.Fabric, client, inc int) {
	t.Helper()
	if code := f.Restart(client, inc); code != api.OK {
		t.Fatalf("Restart(%d, %d): %v", client, inc, code)
	}
}

// ok returns the completion of a verb that has succeeded, and failed that of one that has not.
func ok(words ...uint64) api.Done {
	return api.Done{Words: words}
}

func failed(code api.Errno) api.Done {
	return api.Done{Code: code}
}

// sameDone reports whether two completions are equal.
func sameDone(a, b api.Done) bool {
	return a.Code == b.Code && slices.Equal(a.Words, b.Words)
}

// takes fails the test unless the compute node's batch has these completions.
func takes(t *testing.T, f *fabric.Fabric, client int, want ...api.Done) {
	t.Helper()
	got, ok := f.Take(client)
	if !ok || !slices.EqualFunc(got, want, sameDone) {
		t.Fatalf("Take(%d) = %+v, %v; want %+v", client, got, ok, want)
	}
}

// takesNothing fails the test if the compute node has a batch that is complete.
func takesNothing(t *testing.T, f *fabric.Fabric, client int) {
	t.Helper()
	if got, ok := f.Take(client); ok || len(got) != 0 {
		t.Fatalf("Take(%d) = %+v, %v; want nothing", client, got, ok)
	}
}

// chooses fails the test unless these are the choices.
func chooses(t *testing.T, f *fabric.Fabric, want ...fabric.Choice) {
	t.Helper()
	if got := f.Choices(); !slices.Equal(got, want) {
		t.Fatalf("Choices() = %+v; want %+v", got, want)
	}
}

// waits fails the test unless as many verbs of the compute node wait.
func waits(t *testing.T, f *fabric.Fabric, client, want int) {
	t.Helper()
	if got := f.Waiting(client); got != want {
		t.Fatalf("Waiting(%d) = %d; want %d", client, got, want)
	}
}

// holds fails the test unless a memory node, which is up, has these words from word 40 on.
func holds(t *testing.T, f *fabric.Fabric, node int, want ...uint64) {
	t.Helper()
	if got, code := f.Node(node).Read(40, len(want)); code != api.OK || !slices.Equal(got, want) {
		t.Errorf("memory node %d holds %v, %v; want %v", node, got, code, want)
	}
}

// all is what a fabric tells of itself.
func all(f *fabric.Fabric) []byte {
	b := f.Encode()
	for client := range f.Clients() {
		b = append(b, byte(f.Trips(client)), byte(f.Posted(client)))
	}
	return b
}

// unchanged fails the test if what is done changes the fabric.
func unchanged(t *testing.T, f *fabric.Fabric, what string, done func()) {
	t.Helper()
	before := all(f)
	done()
	if !bytes.Equal(all(f), before) {
		t.Errorf("%s has changed the fabric", what)
	}
}

// edges returns ints at, within and beyond all limits.
func edges() []int {
	return []int{minInt, -1 << 32, -2, -1, 0, 1, 2, 3, 4, 5, 6, 7, 8, 97, 98, 255, 256, 257, 1 << 32, 1<<32 + 1, maxInt}
}

// Promise 6.1: all numbers at, within and beyond the limits, and the order of the errors.
func TestNew(t *testing.T) {
	for _, nodes := range edges() {
		for _, clients := range edges() {
			for _, lines := range edges() {
				want := api.OK
				if nodes < 1 || nodes > 5 || clients < 1 || clients > 6 {
					want = api.ErrArg
				} else if lines < 1 || lines > 256 {
					want = api.ErrRange
				}
				f, code := fabric.New(nodes, clients, lines)
				if code != want || (f != nil) != (want == api.OK) {
					t.Fatalf("New(%d, %d, %d): %v, %v; want %v", nodes, clients, lines, f, code, want)
				}
				if f != nil {
					isNew(t, f, nodes, clients, lines)
				}
			}
		}
	}
}

// isNew fails the test unless f is a new fabric of that many nodes and lines.
func isNew(t *testing.T, f *fabric.Fabric, nodes, clients, lines int) {
	t.Helper()
	if f.Nodes() != nodes || f.Clients() != clients || f.Lines() != lines {
		t.Errorf("a fabric of %d, %d, %d; want %d, %d, %d", f.Nodes(), f.Clients(), f.Lines(), nodes, clients, lines)
	}
	fresh, _ := memnode.New(lines)
	for i := range nodes {
		if n := f.Node(i); n == nil || n != f.Node(i) || !bytes.Equal(n.Image(), fresh.Image()) {
			t.Errorf("memory node %d is not as new", i)
		}
	}
	for client := range clients {
		if !f.Alive(client) || f.Inc(client) != 1 || f.Trips(client) != 0 || f.Posted(client) != 0 {
			t.Errorf("compute node %d: %v, incarnation %d, %d batches, %d verbs", client, f.Alive(client), f.Inc(client), f.Trips(client), f.Posted(client))
		}
		waits(t, f, client, 0)
		takesNothing(t, f, client)
	}
	chooses(t, f)
}

// Promise 6.1: the memory nodes are different objects, and each is always the same one.
func TestNodes(t *testing.T) {
	f := made(t, 5, 1, lines)
	first := make([]*memnode.Node, 5)
	for i := range first {
		first[i] = f.Node(i)
		if slices.Contains(first[:i], first[i]) {
			t.Errorf("memory node %d is another one too", i)
		}
	}
	post(t, f, 0, add(1, 40, 1), add(2, 40, 1), writes(4, 40, counted(10)...))
	steps(t, f, live(0, 4))
	first[2].Fail()
	first[2].Back()
	die(t, f, 0)
	steps(t, f, orphan(2), orphan(0))
	restart(t, f, 0, 3)
	f.Rename(0, 5)
	f.Copy().Node(3).Fail()
	f.Encode()
	for i, n := range first {
		if f.Node(i) != n {
			t.Errorf("memory node %d is not the same object any more", i)
		}
	}
	for _, i := range edges() {
		if n := f.Node(i); (n != nil) != (i >= 0 && i < 5) {
			t.Errorf("Node(%d) = %v", i, n)
		}
	}
	for nodes := 1; nodes <= 5; nodes++ {
		if f := made(t, nodes, 6, 1); f.Node(nodes-1) == nil || f.Node(nodes) != nil {
			t.Errorf("the last of %d memory nodes", nodes)
		}
	}
}

// Promise 6.1: what is done to a memory node is done to the fabric, and what verbs do is done to the memory node.
func TestNodeIsTheFabricsOwn(t *testing.T) {
	f := usual(t)
	n := f.Node(1)
	n.Write(40, []uint64{7, 8})
	post(t, f, 2, reads(1, 40, 2), add(1, 41, 1), reads(1, 41, 1), reads(1, 41, 1))
	steps(t, f, live(2, 1), live(2, 1))
	holds(t, f, 1, 7, 9)
	if words, code := n.Read(41, 1); code != api.OK || words[0] != 9 {
		t.Errorf("the memory node holds %v, %v", words, code)
	}
	n.Fail()
	steps(t, f, live(2, 1))
	n.Back()
	steps(t, f, live(2, 1))
	// The verb presents boot number 0.
	takes(t, f, 2, ok(7, 8), ok(8), failed(api.ErrGone), failed(api.ErrRefused))
	holds(t, f, 0, 0, 0)
	holds(t, f, 2, 0, 0)
}

// Promises 6.1 to 6.5: every function with clients that are out of range.
func TestClientsOutOfRange(t *testing.T) {
	f := usual(t)
	post(t, f, 0, add(0, 40, 1), add(1, 40, 1))
	post(t, f, 2, add(0, 40, 1))
	die(t, f, 2)
	for _, client := range []int{minInt, -1 << 32, -3, -1, 3, 4, 5, 6, 1 << 32, maxInt} {
		unchanged(t, f, "a client out of range", func() {
			if f.Alive(client) || f.Inc(client) != 0 || f.Die(client) || f.Trips(client) != 0 || f.Posted(client) != 0 || f.Step(live(client, 0)) {
				t.Errorf("compute node %d is there", client)
			}
			waits(t, f, client, 0)
			takesNothing(t, f, client)
			for _, inc := range []int{-1, 0, 3, 60} {
				if a, b := f.Restart(client, inc), f.Rename(client, inc); a != api.ErrArg || b != api.ErrArg {
					t.Errorf("Restart(%d, %d) = %v; Rename = %v", client, inc, a, b)
				}
			}
			for _, l := range [][]api.Verb{nil, {add(0, 40, 1)}, {add(9, 40, 1)}, make([]api.Verb, 1025)} {
				if code := f.Post(client, l); code != api.ErrArg {
					t.Errorf("Post(%d, %d verbs) = %v", client, len(l), code)
				}
			}
		})
	}
}

// A Fabric that was never made has no nodes; its methods do not panic (rule R1).
func TestFabricThatWasNeverMade(t *testing.T) {
	f := new(fabric.Fabric)
	for _, g := range []*fabric.Fabric{f, f.Copy()} {
		if g.Nodes() != 0 || g.Clients() != 0 || g.Lines() != 0 || g.Node(0) != nil || g.Alive(0) || g.Inc(0) != 0 || g.Trips(0) != 0 || g.Posted(0) != 0 {
			t.Error("it has nodes")
		}
		if g.Post(0, []api.Verb{add(0, 40, 1)}) != api.ErrArg || g.Restart(0, 3) != api.ErrArg || g.Rename(0, 3) != api.ErrArg {
			t.Error("a compute node acts")
		}
		if g.Step(live(0, 0)) || g.Step(orphan(0)) || g.DropOrphan(0) || g.Die(0) {
			t.Error("it has a pair")
		}
		waits(t, g, 0, 0)
		takesNothing(t, g, 0)
		chooses(t, g)
		if !bytes.Equal(g.Encode(), f.Encode()) || bytes.Equal(g.Encode(), made(t, 1, 1, 1).Encode()) {
			t.Error("its bytes")
		}
	}
}

// A memory node that its holder replaces by one of another size refuses verbs; nothing panics (rule R1).
func TestNodeReplacedByASmallerOne(t *testing.T) {
	f := usual(t)
	post(t, f, 0, add(0, 40, 1), add(1, 40, 1), reads(0, 0, 2))
	small, _ := memnode.New(1)
	*f.Node(0), *f.Node(1) = *small, memnode.Node{}
	finish(t, f)
	takes(t, f, 0, failed(api.ErrRange), failed(api.ErrGone), ok(0, 0))
	if !bytes.Equal(f.Copy().Encode(), f.Encode()) || f.Lines() != lines {
		t.Error("the copy is in another state")
	}
}

// Package fabric uses packages api, memnode, queuepair and verb, and what the language's rules allow.
func TestImports(t *testing.T) {
	folder, err := build.ImportDir(".", 0)
	if err != nil || len(folder.GoFiles) == 0 {
		t.Fatalf("the files %q: %v", folder.GoFiles, err)
	}
	allowed := []string{"bodega/api", "bodega/memnode", "bodega/queuepair", "bodega/verb", "slices"}
	for _, path := range folder.Imports {
		if !slices.Contains(allowed, path) {
			t.Errorf("the files %q import %q", folder.GoFiles, path)
		}
	}
}
