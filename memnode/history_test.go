package memnode_test

import (
	"bytes"
	"math/rand"
	"slices"
	"testing"

	"bodega/api"
	"bodega/memnode"
)

// model is a memory node in plain words.
type model struct {
	words []uint64
	up    bool
}

// step is an operation with its arguments; which ones it uses depends on its kind.
type step struct {
	kind, at, count int
	old, next       uint64
	words           []uint64
}

const (
	stepRead = iota
	stepWrite
	stepCas
	stepAdd
	stepFail
	stepBack
	stepKinds
)

// answer is what an operation returned; Back counts as an operation that returns ErrBusy instead of false.
type answer struct {
	words []uint64
	code  api.Errno
}

func (a answer) equals(b answer) bool {
	return a.code == b.code && slices.Equal(a.words, b.words)
}

// do carries a step out on a node.
func do(n *memnode.Node, s step) answer {
	switch s.kind {
	case stepRead:
		words, code := n.Read(s.at, s.count)
		return answer{words, code}
	case stepWrite:
		return answer{nil, n.Write(s.at, s.words)}
	case stepCas:
		was, code := n.Cas(s.at, s.old, s.next)
		return answer{[]uint64{was}, code}
	case stepAdd:
		was, code := n.Add(s.at, s.next)
		return answer{[]uint64{was}, code}
	case stepFail:
		n.Fail()
	case stepBack:
		if !n.Back() {
			return answer{nil, api.ErrBusy}
		}
	}
	return answer{}
}

// outcome is do for the model.
func (m *model) outcome(s step) answer {
	switch s.kind {
	case stepFail:
		m.up = false
		return answer{}
	case stepBack:
		if m.up || m.words[1] >= api.MaxBoot {
			return answer{nil, api.ErrBusy}
		}
		m.words[1], m.up = m.words[1]+1, true
		return answer{}
	}
	result := make([]uint64, 1)
	count := 1
	switch s.kind {
	case stepRead:
		result, count = nil, s.count
	case stepWrite:
		result, count = nil, len(s.words)
	}
	if s.at < 0 || count < 1 || s.at+count > len(m.words) {
		return answer{result, api.ErrRange}
	}
	if !m.up {
		return answer{result, api.ErrGone}
	}
	switch s.kind {
	case stepRead:
		return answer{slices.Clone(m.words[s.at : s.at+count]), api.OK}
	case stepWrite:
		for i, w := range s.words {
			m.words[s.at+i] = w
		}
		return answer{}
	}
	was := m.words[s.at]
	if s.kind == stepAdd {
		m.words[s.at] = was + s.next
	} else if was == s.old {
		m.words[s.at] = s.next
	}
	return answer{[]uint64{was}, api.OK}
}

// chosen returns a step that is often possible: few different words, and addresses in and beside the node.
func chosen(r *rand.Rand, size int) step {
	s := step{kind: r.Intn(stepKinds), at: r.Intn(size+2) - 1, count: r.Intn(size+2) - 1, old: uint64(r.Intn(3)), next: uint64(r.Intn(3))}
	if s.kind == stepFail && r.Intn(2) == 0 {
		s.kind = stepBack
	}
	for range r.Intn(6) {
		s.words = append(s.words, uint64(r.Intn(3)))
	}
	return s
}

// Promise 3.5: after each step of many histories the node is what the steps so far have made of it. The second node is
// given the successful steps only; it must become the same. The third one is replaced by its copy or by a node with
// its image again and again.
func TestHistories(t *testing.T) {
	for seed := range int64(60) {
		r := rand.New(rand.NewSource(seed))
		lines := 1 + r.Intn(3)
		size := lines * api.LineWords
		want := &model{words: make([]uint64, size), up: true}
		all, successful, replaced := made(t, lines), made(t, lines), made(t, lines)
		for range 400 {
			s := chosen(r, size)
			a := want.outcome(s)
			if got := do(all, s); !got.equals(a) {
				t.Fatalf("seed %d: %+v returns %+v; want %+v", seed, s, got, a)
			}
			if a.code == api.OK {
				do(successful, s)
			}
			replaced = another(t, replaced, r)
			if got := do(replaced, s); !got.equals(a) {
				t.Fatalf("seed %d: %+v returns %+v from a copy; want %+v", seed, s, got, a)
			}
			holds(t, all, want.up, want.words)
			if !bytes.Equal(all.Image(), successful.Image()) || !bytes.Equal(all.Image(), replaced.Image()) {
				t.Fatalf("seed %d: the nodes differ after %+v", seed, s)
			}
			if t.Failed() {
				t.Fatalf("seed %d, after %+v", seed, s)
			}
		}
	}
}

// another returns the node, a copy, or a node with its image.
func another(t *testing.T, n *memnode.Node, r *rand.Rand) *memnode.Node {
	t.Helper()
	switch r.Intn(4) {
	case 0:
		return n.Copy()
	case 1:
		loaded, code := memnode.Load(n.Image())
		if code != api.OK {
			t.Fatalf("Load: %v", code)
		}
		return loaded
	}
	return n
}

// Promise 3.5 and rule R3: what happens to other nodes, also of the same size, does not matter.
func TestNodesAreIndependent(t *testing.T) {
	one, two := filled(t, 2), made(t, 2)
	want := contents(t, one)
	write(t, two, 0, some(16, 3)...)
	two.Fail()
	holds(t, one, true, want)
	holds(t, two, false, some(16, 3))
	one.Fail()
	one.Fail()
	if _, code := made(t, 2).Read(0, 1); code != api.OK {
		t.Errorf("a new node beside two that are down: %v", code)
	}
}

// Promise 3.5: the same operations in another order make another node.
func TestOrderMatters(t *testing.T) {
	first, second := made(t, 1), made(t, 1)
	first.Add(0, 5)
	first.Write(0, []uint64{7})
	second.Write(0, []uint64{7})
	second.Add(0, 5)
	holds(t, first, true, []uint64{7, 0, 0, 0, 0, 0, 0, 0})
	holds(t, second, true, []uint64{12, 0, 0, 0, 0, 0, 0, 0})
}
