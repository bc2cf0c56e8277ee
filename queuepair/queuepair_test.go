package queuepair_test

import (
	"bytes"
	"go/build"
	"slices"
	"testing"

	"bodega/api"
	"bodega/memnode"
	"bodega/queuepair"
	"bodega/verb"
)

const (
	top    = 1<<64 - 1
	maxInt = 1<<63 - 1
	minInt = -1 << 63

	// What the pair of usual and the node of filled have.
	client = 1
	inc    = 5
	number = 2
	lines  = 12
	key    = 3
	boot   = 2
	door   = 5
)

// made returns an empty pair.
func made(t *testing.T, client, inc, node int) *queuepair.Pair {
	t.Helper()
	p, code := queuepair.New(client, inc, node)
	if p == nil || code != api.OK {
		t.Fatalf("New(%d, %d, %d): %v", client, inc, node, code)
	}
	return p
}

// usual returns an empty pair that the node of filled admits, and posts verbs that must be accepted.
func usual(t *testing.T, l ...api.Verb) *queuepair.Pair {
	t.Helper()
	p := made(t, client, inc, number)
	post(t, p, l...)
	return p
}

// post posts verbs that must be accepted.
func post(t *testing.T, p *queuepair.Pair, l ...api.Verb) {
	t.Helper()
	for _, v := range l {
		if code := p.Post(v, lines); code != api.OK {
			t.Fatalf("Post(%+v): %v", v, code)
		}
	}
}

// filled returns a node that admits the verbs of usual and keyed. Its other words differ from one another; the doors of
// the other compute nodes are closed.
func filled(t *testing.T, lines int) *memnode.Node {
	t.Helper()
	words := make([]uint64, lines*api.LineWords)
	for i := range words {
		words[i] = uint64(i+3) * 0x9E37_79B9_7F4A_7C15
	}
	words[0], words[1] = key, boot
	if lines > api.LineDoors {
		words[api.LineDoors*api.LineWords+client] = door
	}
	return holding(t, words)
}

// holding returns a node that is up and has these words.
func holding(t *testing.T, words []uint64) *memnode.Node {
	t.Helper()
	n, code := memnode.New(len(words) / api.LineWords)
	if code != api.OK {
		t.Fatalf("memnode.New: %v", code)
	}
	write(t, n, 0, words...)
	return n
}

// write writes words that must be accepted.
func write(t *testing.T, n *memnode.Node, at int, words ...uint64) {
	t.Helper()
	if code := n.Write(at, words); code != api.OK {
		t.Fatalf("Write(%d, %d words): %v", at, len(words), code)
	}
}

// contents returns all words of a node, whether it is up or not.
func contents(n *memnode.Node) []uint64 {
	image := n.Image()
	words := make([]uint64, n.Lines()*api.LineWords)
	for i := range words {
		for j := range 8 {
			words[i] |= uint64(image[7+8*i+j]) << (8 * j)
		}
	}
	return words
}

// holds fails the test unless these are all words of the node.
func holds(t *testing.T, n *memnode.Node, want []uint64) {
	t.Helper()
	if got := contents(n); !slices.Equal(got, want) {
		t.Errorf("the node holds %v; want %v", got, want)
	}
}

// keyed returns the verb with the node, the key and the boot number of usual and filled.
func keyed(v api.Verb) api.Verb {
	v.Node, v.Key, v.Boot = number, key, boot
	return v
}

// reads, writes, cas and add return verbs for usual and filled.
func reads(at, count int) api.Verb {
	return keyed(api.Verb{Kind: api.Read, At: at, N: count})
}

func writes(at int, words ...uint64) api.Verb {
	return keyed(api.Verb{Kind: api.Write, At: at, Words: words})
}

func cas(at int, old, new uint64) api.Verb {
	return keyed(api.Verb{Kind: api.Cas, At: at, Old: old, New: new})
}

func add(at int, by uint64) api.Verb {
	return keyed(api.Verb{Kind: api.Add, At: at, New: by})
}

// counted returns that many words, each another one.
func counted(count int) []uint64 {
	words := make([]uint64, count)
	for i := range words {
		words[i] = uint64(i + 1)
	}
	return words
}

// goesOn fails the test unless a Step on n completes no verb.
func goesOn(t *testing.T, p *queuepair.Pair, n *memnode.Node) {
	t.Helper()
	if d, completed := p.Step(n); completed || d.Code != api.OK || len(d.Words) != 0 {
		t.Fatalf("Step = %+v, %v; want no completion", d, completed)
	}
}

// completes fails the test unless a Step on n completes a verb with this code and these words.
func completes(t *testing.T, p *queuepair.Pair, n *memnode.Node, want api.Errno, words ...uint64) {
	t.Helper()
	pending := p.Pending()
	d, completed := p.Step(n)
	if !completed || d.Code != want || !slices.Equal(d.Words, words) {
		t.Fatalf("Step = %+v, %v; want %v with the words %v", d, completed, want, words)
	}
	if p.Pending() != pending-1 {
		t.Fatalf("%d verbs are pending after a completion; there were %d", p.Pending(), pending)
	}
}

// isFirst fails the test unless v is the first pending verb and as many of its pieces are executed.
func isFirst(t *testing.T, p *queuepair.Pair, v api.Verb, executed int) {
	t.Helper()
	if got, n, ok := p.First(); !ok || n != executed || !verb.Same(got, v) {
		t.Errorf("First = %+v, %d, %v; want %+v, %d", got, n, ok, v, executed)
	}
}

// isEmpty fails the test unless no verb is pending.
func isEmpty(t *testing.T, p *queuepair.Pair) {
	t.Helper()
	if v, executed, ok := p.First(); ok || executed != 0 || !isZero(v) || p.Pending() != 0 {
		t.Errorf("First = %+v, %d, %v; %d pending; want none", v, executed, ok, p.Pending())
	}
}

// isZero reports whether all fields of a verb are 0 or empty.
func isZero(v api.Verb) bool {
	return v.Kind == 0 && v.Node == 0 && v.At == 0 && v.N == 0 && v.Old == 0 && v.New == 0 && len(v.Words) == 0 && v.Key == 0 && v.Boot == 0
}

// Promise 5.1: all compute nodes, incarnations and memory nodes at, within and beyond the limits; ErrArg comes first.
func TestNew(t *testing.T) {
	ints := []int{minInt, -1 << 32, -2, -1, 60, 61, 255, 256, 1 << 32, 1<<32 + 1, maxInt}
	for i := range 60 {
		ints = append(ints, i)
	}
	for _, client := range ints {
		for _, inc := range ints {
			for _, node := range ints {
				want := api.OK
				if client < 0 || client > 5 {
					want = api.ErrArg
				} else if inc < 0 || inc > 59 || node < 0 || node > 4 {
					want = api.ErrRange
				}
				p, code := queuepair.New(client, inc, node)
				if code != want || (p != nil) != (want == api.OK) {
					t.Errorf("New(%d, %d, %d): %v, %v; want %v", client, inc, node, p, code, want)
				}
				if p != nil && (p.Client() != client || p.Inc() != inc || p.Node() != node || p.Pending() != 0) {
					t.Errorf("New(%d, %d, %d) has %d, %d, %d and %d verbs", client, inc, node, p.Client(), p.Inc(), p.Node(), p.Pending())
				}
			}
		}
	}
}

// Promise 5.1: a new pair has nothing to execute; what it is stays whatever it does.
func TestNewIsEmpty(t *testing.T) {
	p, n := made(t, 4, 59, 3), filled(t, lines)
	want := contents(n)
	isEmpty(t, p)
	for range 2 {
		goesOn(t, p, n)
	}
	holds(t, n, want)
	p.Post(api.Verb{Kind: api.Read, Node: 3, N: 16}, lines)
	p.Step(n)
	if p.Client() != 4 || p.Inc() != 59 || p.Node() != 3 {
		t.Errorf("the pair has become that of %d, %d, %d", p.Client(), p.Inc(), p.Node())
	}
	p.Drop()
	p = p.Copy()
	if p.Client() != 4 || p.Inc() != 59 || p.Node() != 3 {
		t.Errorf("the copy is that of %d, %d, %d", p.Client(), p.Inc(), p.Node())
	}
}

// Promise 5.1: incarnation 0 reads what is of class Control, whatever the doors are.
func TestIncarnation0(t *testing.T) {
	p, n := made(t, client, 0, number), filled(t, lines)
	want := contents(n)
	for _, v := range []api.Verb{{At: 0, N: 1}, {At: 24, N: 8}, {At: 17, N: 7}} {
		v.Kind, v.Node = api.Read, number
		post(t, p, v)
		completes(t, p, n, api.OK, want[v.At:v.At+v.N]...)
	}
	post(t, p, reads(32, 1), writes(8, 1), cas(8, want[8], 1), add(40, 1))
	for range 4 {
		completes(t, p, n, api.ErrRefused)
	}
	holds(t, n, want)
}

// A Pair that was never made is that of the first compute node and the first memory node; its methods do not panic
// (rule R1).
func TestPairThatWasNeverMade(t *testing.T) {
	p := new(queuepair.Pair)
	isEmpty(t, p)
	p.Drop()
	if !bytes.Equal(p.Copy().Encode(), made(t, 0, 0, 0).Encode()) {
		t.Error("it is in a state of its own")
	}
	v := api.Verb{Kind: api.Read, At: 7, N: 2}
	post(t, p, v)
	goesOn(t, p, filled(t, lines))
	isFirst(t, p, v, 1)
	completes(t, p, new(memnode.Node), api.ErrGone)
}

// Package queuepair uses packages api, memnode and verb, and what the language's rules allow.
func TestImports(t *testing.T) {
	folder, err := build.ImportDir(".", 0)
	if err != nil || len(folder.GoFiles) == 0 {
		t.Fatalf("the files %q: %v", folder.GoFiles, err)
	}
	allowed := []string{"bodega/api", "bodega/memnode", "bodega/verb", "slices"}
	for _, path := range folder.Imports {
		if !slices.Contains(allowed, path) {
			t.Errorf("the files %q import %q", folder.GoFiles, path)
		}
	}
}
