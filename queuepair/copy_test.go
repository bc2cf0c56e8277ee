package queuepair_test

import (
	"bytes"
	"slices"
	"testing"

	"bodega/api"
	"bodega/memnode"
	"bodega/queuepair"
)

// steps executes that many pieces, whatever they complete.
func steps(p *queuepair.Pair, n *memnode.Node, count int) *queuepair.Pair {
	for range count {
		p.Step(n)
	}
	return p
}

// Promise 5.4: Drop before each step of a queue. What was executed stays; nothing of it is left in the verbs that are
// posted afterwards.
func TestDrop(t *testing.T) {
	l := []api.Verb{writes(39, counted(10)...), reads(39, 10), add(40, 1)}
	for executed := range 8 {
		p, n := steps(usual(t, l...), filled(t, lines), executed), filled(t, lines)
		steps(usual(t, l...), n, executed)
		want := contents(n)
		p.Drop()
		isEmpty(t, p)
		if !bytes.Equal(p.Encode(), usual(t).Encode()) {
			t.Errorf("after %d steps and Drop the pair is not as new", executed)
		}
		goesOn(t, p, n)
		p.Drop()
		post(t, p, reads(47, 2))
		isFirst(t, p, reads(47, 2), 0)
		goesOn(t, p, n)
		completes(t, p, n, api.OK, want[47:49]...)
		holds(t, n, want)
	}
}

// Promise 5.4: Drop in the middle of a write leaves its first words written.
func TestDropOfATornWrite(t *testing.T) {
	p, n := usual(t, writes(39, counted(10)...)), filled(t, lines)
	want := contents(n)
	goesOn(t, p, n)
	goesOn(t, p, n)
	p.Drop()
	copy(want[39:], counted(9))
	holds(t, n, want)
	goesOn(t, p, n)
	holds(t, n, want)
}

// Promise 5.4: a copy is in the same state, before each step of a queue, and goes on as the original does.
func TestCopy(t *testing.T) {
	l := []api.Verb{reads(39, 10), writes(39, counted(10)...), reads(39, 20), cas(40, 2, 3), add(40, 1)}
	for executed := range 13 {
		p, n := usual(t, l...), filled(t, lines)
		steps(p, n, executed)
		q, m := p.Copy(), n.Copy()
		if q.Client() != client || q.Inc() != inc || q.Node() != number || q.Pending() != p.Pending() || !bytes.Equal(q.Encode(), p.Encode()) {
			t.Errorf("after %d steps the copy has %d verbs; the original has %d", executed, q.Pending(), p.Pending())
		}
		if v, done, ok := p.First(); ok {
			isFirst(t, q, v, done)
		}
		if a, b := run(p, n), run(q, m); !slices.EqualFunc(a, b, sameDone) {
			t.Errorf("after %d steps the original ends with %+v, the copy with %+v", executed, a, b)
		}
		holds(t, m, contents(n))
	}
}

// sameDone reports whether two completions are equal.
func sameDone(a, b api.Done) bool {
	return a.Code == b.Code && slices.Equal(a.Words, b.Words)
}

// Promise 5.4: what happens to the original does not happen to the copy, nor the other way round.
func TestCopiesGoOnApart(t *testing.T) {
	l := []api.Verb{reads(39, 26), writes(39, counted(10)...), add(40, 1)}
	n := filled(t, lines)
	p := usual(t, l...)
	// A queue that has grown and shrunk has room behind its end and before its beginning.
	post(t, p, add(41, 0), add(41, 0))
	steps(p, n, 2)
	q := p.Copy()
	want := p.Encode()
	alike := func(what string, r *queuepair.Pair) {
		t.Helper()
		if !bytes.Equal(r.Encode(), want) {
			t.Errorf("after %s of the other pair: a state of its own", what)
		}
	}
	post(t, p, add(42, 0))
	alike("Post", q)
	post(t, q, add(43, 0))
	q, p = p.Copy(), q
	want = q.Encode()
	for range 10 {
		p.Step(filled(t, lines))
		alike("Step", q)
	}
	p.Drop()
	alike("Drop", q)
	post(t, p, l...)
	alike("Post", q)
	got := run(q, n.Copy())
	if len(got) != 6 || !slices.Equal(got[0].Words, contents(n)[39:65]) {
		t.Errorf("the copy ends with %+v", got)
	}
}

// Promise 5.4: copies that are in the middle of one Read read on in turns, each from its own node.
func TestCopiesOfATornRead(t *testing.T) {
	for executed := 1; executed < 8; executed++ {
		p, n := usual(t, reads(32, 64)), filled(t, lines)
		steps(p, n, executed)
		m := n.Copy()
		write(t, m, 32, counted(64)...)
		q := p.Copy()
		r := q.Copy()
		for range 7 - executed {
			goesOn(t, p, n)
			goesOn(t, q, m)
			goesOn(t, r, n)
		}
		whole := contents(n)[32:96]
		want := slices.Concat(whole[:8*executed], counted(64)[8*executed:])
		d, _ := p.Step(n)
		if !slices.Equal(d.Words, whole) {
			t.Errorf("copied after %d pieces, the original has read %v; want %v", executed, d.Words, whole)
		}
		clear(d.Words)
		completes(t, q, m, api.OK, want...)
		completes(t, r, n, api.OK, whole...)
	}
}
