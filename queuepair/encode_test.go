package queuepair_test

import (
	"bytes"
	"testing"

	"bodega/api"
	"bodega/memnode"
	"bodega/queuepair"
)

// single are verbs each of which differs from another one of them in one field that its kind uses, or in its kind.
func single() []api.Verb {
	l := []api.Verb{reads(40, 9), reads(41, 9), reads(40, 10), reads(296, 9), writes(40, 0), writes(41, 0), writes(40, 0, 0), writes(40, 1),
		writes(40, 1<<56), writes(40, 2, 1), writes(40, 1, 2), writes(40, 1, 2, 3), writes(40, counted(256)...), writes(40, counted(257)...),
		cas(40, 0, 0), cas(41, 0, 0), cas(40, 1, 0), cas(40, 0, 1), cas(40, top, 1), cas(40, 0, 1<<63), add(40, 0), add(41, 0), add(40, 1), add(40, 1<<63),
		reads(40, 1), reads(40, 257)}
	for _, v := range []api.Verb{reads(40, 9), writes(40, 0), cas(40, 0, 0), add(40, 0)} {
		for _, key := range []uint64{0, 2, 4, 259, key + 1<<32, key + 1<<63, top} {
			other := v
			other.Key = key
			l = append(l, other)
		}
		for _, boot := range []int{0, 1, 3, 258, boot + 1<<32, -1, minInt, maxInt} {
			other := v
			other.Boot = boot
			l = append(l, other)
		}
	}
	return l
}

// queued returns a pair with these pending verbs, of nodes of the greatest size.
func queued(t *testing.T, l ...api.Verb) *queuepair.Pair {
	t.Helper()
	p := usual(t)
	for _, v := range l {
		if code := p.Post(v, api.MaxLines); code != api.OK {
			t.Fatalf("Post(%+v): %v", v, code)
		}
	}
	return p
}

// zeros returns a node that admits the verbs of keyed and holds 0 in all other lines.
func zeros(t *testing.T) *memnode.Node {
	t.Helper()
	n, _ := memnode.New(lines)
	write(t, n, 0, key, boot)
	return n
}

// states returns pairs each of which is in another state.
func states(t *testing.T) []*queuepair.Pair {
	t.Helper()
	var l []*queuepair.Pair
	for _, x := range [][3]int{{client, inc, number}, {client + 1, inc, number}, {client, inc + 1, number}, {client, inc, number + 1}, {0, 0, 0}, {1, 0, 0}, {0, 1, 0}, {0, 0, 1}} {
		l = append(l, made(t, x[0], x[1], x[2]))
		p := made(t, x[0], x[1], x[2])
		post(t, p, api.Verb{Kind: api.Add, Node: x[2], At: 9})
		l = append(l, p)
	}
	for _, v := range single() {
		l = append(l, queued(t, v), queued(t, v, reads(40, 2)), queued(t, v, v), queued(t, add(40, 7), v))
	}
	// Verbs in another order, and queues of which one goes on as the other one ends.
	l = append(l, queued(t, reads(40, 8), writes(40, 8)), queued(t, writes(40, 8), reads(40, 8)), queued(t, add(48, 1), add(49, 1), add(50, 1)),
		queued(t, add(48, 1), add(50, 1), add(49, 1)), queued(t, writes(40, 1, 4, 40, 3, 2, 5)), queued(t, writes(40, 1), add(40, 5)))
	// The same numbers in the same order, if nothing tells where a list of words ends.
	inner := api.Verb{Kind: api.Write, Node: number, At: api.Write, Key: 40, Boot: key, Words: []uint64{boot, 7}}
	l = append(l, queued(t, writes(40, 1, api.Write), writes(40, 7)), queued(t, writes(40, 1), inner))
	return append(l, torn(t)...)
}

// torn returns pairs that are before, between and behind the pieces of a long verb.
func torn(t *testing.T) []*queuepair.Pair {
	t.Helper()
	long, wide := reads(47, 20), writes(47, counted(20)...)
	l := []*queuepair.Pair{queued(t, long), queued(t, wide)}
	for executed := 1; executed <= 3; executed++ {
		l = append(l, steps(queued(t, long), zeros(t), executed), steps(queued(t, wide), zeros(t), executed))
		l = append(l, steps(queued(t, long, long), zeros(t), executed))
		// As many pieces of the same verb, which have read another word in one place.
		for at := 47; at < 40+8*executed; at++ {
			for _, word := range []uint64{1, 1 << 63, 20} {
				n := zeros(t)
				write(t, n, at, word)
				l = append(l, steps(queued(t, long), n, executed))
			}
		}
	}
	return l
}

// Promise 5.4: no two states have the same bytes.
func TestEncodeTellsStatesApart(t *testing.T) {
	seen := map[string]int{}
	l := states(t)
	for i, p := range l {
		code := string(p.Encode())
		if j, ok := seen[code]; ok {
			t.Errorf("pairs %d and %d have the same bytes:\n%+v\n%+v", j, i, l[j], p)
		}
		seen[code] = i
	}
}

// Promise 5.4: pairs in the same state have the same bytes, whatever they have done before. Encode changes nothing, and
// its bytes are new (rule R2).
func TestEncodeOfTheSameState(t *testing.T) {
	same := states(t)
	for i, p := range states(t) {
		want := p.Encode()
		clear(append(p.Encode(), 9))
		for _, q := range []*queuepair.Pair{p, p.Copy(), same[i], same[i].Copy()} {
			if !bytes.Equal(q.Encode(), want) {
				t.Errorf("pair %d: other bytes for\n%+v\n%+v", i, q, p)
			}
		}
	}
}

// Promise 5.4: what a pair has done before does not matter, nor what becomes of the node.
func TestEncodeForgetsThePast(t *testing.T) {
	v := reads(47, 20)
	want := steps(usual(t, v, add(40, 1)), filled(t, lines), 2).Encode()
	alike := func(what string, p *queuepair.Pair) {
		t.Helper()
		if !bytes.Equal(p.Encode(), want) {
			t.Errorf("%s: other bytes", what)
		}
	}
	p, n := usual(t, reads(40, 26), add(70, 1), writes(72, counted(9)...), v), filled(t, lines)
	steps(p, n, 7)
	isFirst(t, p, v, 0)
	steps(p, n, 2)
	post(t, p, add(40, 1))
	alike("behind other verbs", p)

	p.Drop()
	post(t, p, reads(39, 20), v, add(40, 1))
	goesOn(t, p, n)
	n.Fail()
	completes(t, p, n, api.ErrGone)
	n = filled(t, lines)
	steps(p, n, 2)
	alike("behind a verb that was stopped", p)

	// The words that were read count as they were.
	write(t, n, 47, counted(20)...)
	n.Fail()
	alike("after a change of the node", p)
}

// Promise 5.4: fields that verb.Same does not compare do not matter.
func TestEncodeIgnoresUnusedFields(t *testing.T) {
	for _, v := range []api.Verb{reads(47, 9), writes(47, counted(9)...), cas(40, 1, 2), add(40, 1)} {
		other := v
		switch v.Kind {
		case api.Read:
			other.Old, other.New, other.Words = 1, 2, counted(3)
		case api.Write:
			other.N, other.Old, other.New = -1, 1, 2
		case api.Cas:
			other.N, other.Words = -1, counted(3)
		case api.Add:
			other.N, other.Old, other.Words = -1, 1, counted(3)
		}
		p, q := usual(t, v, v, add(40, 1)), usual(t, other, v, add(40, 1))
		for p.Pending() > 0 {
			if !bytes.Equal(p.Encode(), q.Encode()) {
				t.Errorf("other bytes for %+v and %+v", v, other)
			}
			p.Step(zeros(t))
			q.Step(zeros(t))
		}
	}
}
