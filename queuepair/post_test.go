package queuepair_test

import (
	"bytes"
	"slices"
	"testing"

	"bodega/api"
	"bodega/queuepair"
	"bodega/verb"
)

// accepted fails the test unless Post returns the wanted code, and appends the verb exactly if that is OK.
func accepted(t *testing.T, p *queuepair.Pair, v api.Verb, lines int, want api.Errno) {
	t.Helper()
	before, pending := p.Encode(), p.Pending()
	if code := p.Post(v, lines); code != want {
		t.Errorf("Post(%+v, %d) = %v; want %v", v, lines, code, want)
	}
	if want == api.OK {
		pending++
	} else if !bytes.Equal(p.Encode(), before) {
		t.Errorf("Post(%+v, %d) has changed the pair", v, lines)
	}
	if p.Pending() != pending {
		t.Errorf("Post(%+v, %d): %d verbs are pending; want %d", v, lines, p.Pending(), pending)
	}
}

// fill returns a pair with as many pending verbs as it may have.
func fill(t *testing.T) *queuepair.Pair {
	t.Helper()
	p := usual(t)
	for i := range 1024 {
		accepted(t, p, add(40, uint64(i)), lines, api.OK)
	}
	return p
}

// posted are verbs of each kind and class on each memory node, valid ones and others.
func posted() []api.Verb {
	var l []api.Verb
	for _, kind := range []int{minInt, -1, 0, api.Read, api.Write, api.Cas, api.Add, 5, maxInt} {
		for _, node := range []int{minInt, -1, 0, 1, 2, 3, 4, 5, maxInt} {
			for _, at := range []int{minInt, -1, 0, 23, 24, 31, 32, 63, 64, 95, 96, 1023, 1024, 2047, 2048, maxInt} {
				for _, count := range []int{0, 1, 2, 9} {
					l = append(l, api.Verb{Kind: kind, Node: node, At: at, N: count, Words: make([]uint64, count)})
				}
			}
		}
	}
	return append(l, api.Verb{Kind: api.Read, Node: number, N: -1}, reads(32, 1024), reads(33, 1024), reads(32, maxInt))
}

// Promise 5.2: every verb for nodes of every size: package verb's error, then ErrArg for another memory node.
func TestPost(t *testing.T) {
	for _, size := range []int{minInt, -1, 0, 1, 3, 4, 8, 12, 128, 129, 255, 256, 257, maxInt} {
		for _, v := range posted() {
			want := verb.Valid(v, 5, size)
			if want == api.OK && v.Node != number {
				want = api.ErrArg
			}
			accepted(t, usual(t), v, size, want)
		}
	}
}

// Promise 5.2: what is valid depends on MaxNodes and on the lines that Post is given, not on the pair.
func TestOrderOfErrors(t *testing.T) {
	full := fill(t)
	for _, x := range []struct {
		name  string
		v     api.Verb
		lines int
		want  api.Errno
	}{
		{"no kind, no such node", api.Verb{Kind: 9, Node: 5}, lines, api.ErrArg},
		{"nothing to write, beyond the end, another node", api.Verb{Kind: api.Write, Node: 1, At: 9999}, 0, api.ErrArg},
		{"no such memory node", api.Verb{Kind: api.Add, Node: 5}, lines, api.ErrRange},
		{"below all memory nodes", api.Verb{Kind: api.Add, Node: -1}, lines, api.ErrRange},
		{"beyond the end, another node", api.Verb{Kind: api.Add, Node: 1, At: 8 * lines}, lines, api.ErrRange},
		{"no lines, another node", api.Verb{Kind: api.Add, Node: 1}, 0, api.ErrRange},
		{"too many lines, another node", api.Verb{Kind: api.Add, Node: 1}, api.MaxLines + 1, api.ErrRange},
		{"both classes, another node", api.Verb{Kind: api.Read, Node: 1, At: 31, N: 2}, lines, api.ErrRange},
		{"another node", api.Verb{Kind: api.Add, Node: 1}, lines, api.ErrArg},
		{"the last node", api.Verb{Kind: api.Add, Node: 4}, lines, api.ErrArg},
	} {
		t.Run(x.name, func(t *testing.T) {
			accepted(t, usual(t), x.v, x.lines, x.want)
			accepted(t, full, x.v, x.lines, x.want)
		})
	}
	accepted(t, full, add(40, 1), lines, api.ErrFull)
}

// Promise 5.2: a full queue has room again for each verb that has completed, with or without an error; a piece that
// completes nothing makes no room.
func TestFullQueue(t *testing.T) {
	p, n := fill(t), filled(t, lines)
	for range 3 {
		accepted(t, p, add(40, 1), lines, api.ErrFull)
	}
	before := contents(n)[40]
	completes(t, p, n, api.OK, before)
	accepted(t, p, reads(39, 2), lines, api.OK)
	accepted(t, p, add(40, 1), lines, api.ErrFull)
	n.Fail()
	for range 1023 {
		completes(t, p, n, api.ErrGone)
	}
	for range 1023 {
		accepted(t, p, add(40, 1), lines, api.OK)
	}
	n = filled(t, lines)
	goesOn(t, p, n)
	accepted(t, p, add(40, 1), lines, api.ErrFull)
	completes(t, p, n, api.OK, contents(n)[39], before)
	accepted(t, p, add(40, 1), lines, api.OK)
	p.Drop()
	for range 1024 {
		accepted(t, p, add(40, 1), lines, api.OK)
	}
	accepted(t, p, add(40, 1), lines, api.ErrFull)
}

// Promises 5.2 and 5.5: the pending verbs are counted, and the first one is that which was posted first.
func TestFirst(t *testing.T) {
	p, n := usual(t), filled(t, lines)
	l := []api.Verb{writes(40, counted(9)...), reads(40, 9), cas(41, 2, 7), add(42, 1), reads(40, 3)}
	for i, v := range l {
		isEmptyOr(t, p, l[:i])
		accepted(t, p, v, lines, api.OK)
	}
	goesOn(t, p, n)
	isFirst(t, p, l[0], 1)
	completes(t, p, n, api.OK)
	isFirst(t, p, l[1], 0)
	goesOn(t, p, n)
	isFirst(t, p, l[1], 1)
	isFirst(t, p, l[1], 1)
	completes(t, p, n, api.OK, counted(9)...)
	isFirst(t, p, l[2], 0)
	completes(t, p, n, api.OK, 2)
	isFirst(t, p, l[3], 0)
	completes(t, p, n, api.OK, 3)
	isFirst(t, p, l[4], 0)
	completes(t, p, n, api.OK, 1, 7, 4)
	isEmpty(t, p)
}

// isEmptyOr fails the test unless the first of the verbs is pending and nothing of it is executed.
func isEmptyOr(t *testing.T, p *queuepair.Pair, l []api.Verb) {
	t.Helper()
	if len(l) == 0 {
		isEmpty(t, p)
		return
	}
	isFirst(t, p, l[0], 0)
}

// Promise 5.2: between any two steps of the longest verb, First tells how many pieces are executed.
func TestFirstOfALongVerb(t *testing.T) {
	for _, v := range []api.Verb{reads(39, 1017), writes(39, counted(1017)...)} {
		p, n := made(t, client, inc, number), filled(t, api.MaxLines)
		accepted(t, p, v, api.MaxLines, api.OK)
		want := contents(n)
		for executed := range 127 {
			isFirst(t, p, v, executed)
			goesOn(t, p, n)
			if v.Kind == api.Write {
				copy(want[39:], v.Words[:1+8*executed])
			}
			holds(t, n, want)
		}
		isFirst(t, p, v, 127)
		d, completed := p.Step(n)
		copy(want[39:], v.Words)
		holds(t, n, want)
		if !completed || d.Code != api.OK || len(d.Words) != verb.Returns(v) || v.Kind == api.Read && !slices.Equal(d.Words, want[39:39+1017]) {
			t.Errorf("kind %d: Step = %+v, %v", v.Kind, d, completed)
		}
		isEmpty(t, p)
	}
}

// Rule R2: what a caller does with words that it has posted does not matter to the pair, nor the other way round.
func TestPostedWordsAreCopied(t *testing.T) {
	n := filled(t, lines)
	want := contents(n)
	copy(want[40:], counted(10))
	in := counted(12)
	p := usual(t, writes(40, in[:10]...))
	if !slices.Equal(in, counted(12)) {
		t.Errorf("Post has changed the words to %v", in)
	}
	clear(in[:9])
	isFirst(t, p, writes(40, counted(10)...), 0)
	goesOn(t, p, n)
	in[9] = 0
	completes(t, p, n, api.OK)
	holds(t, n, want)
	if !slices.Equal(in, []uint64{0, 0, 0, 0, 0, 0, 0, 0, 0, 0, 11, 12}) {
		t.Errorf("Step has changed the words to %v", in)
	}
}

// Rule R2: what a caller does with the words that First returns does not matter to the pair and its copies.
func TestWordsOfFirstAreNew(t *testing.T) {
	n := filled(t, lines)
	want := contents(n)
	copy(want[40:], counted(10))
	v := writes(40, counted(10)...)
	p := usual(t, v)
	q := p.Copy()
	for _, r := range []*queuepair.Pair{p, q, p} {
		first, _, _ := r.First()
		clear(append(first.Words, 9))
		isFirst(t, p, v, 0)
		isFirst(t, q, v, 0)
	}
	goesOn(t, p, n)
	first, _, _ := p.First()
	clear(first.Words)
	completes(t, p, n, api.OK)
	holds(t, n, want)
}

// Rule R2: what a caller does with the words of a completion does not matter to the pair, its copies and the node.
func TestWordsOfCompletionsAreNew(t *testing.T) {
	p, n := usual(t, reads(44, 9), reads(44, 9), add(44, 0)), filled(t, lines)
	want := contents(n)
	goesOn(t, p, n)
	q := p.Copy()
	d, _ := p.Step(n)
	clear(append(d.Words[:4], 9))
	completes(t, q, n, api.OK, want[44:53]...)
	goesOn(t, p, n)
	clear(append(d.Words, 9))
	completes(t, p, n, api.OK, want[44:53]...)
	completes(t, p, n, api.OK, want[44])
	holds(t, n, want)
}

// Promise 5.2: fields that a kind does not use make no verb invalid and change nothing of what it does.
func TestUnusedFields(t *testing.T) {
	n := filled(t, lines)
	words := contents(n)
	used := []api.Verb{writes(40, 6), reads(41, 1), cas(42, words[42], 7), add(43, 1)}
	p := usual(t, used...)
	q := made(t, client, inc, number)
	for _, v := range used {
		switch v.Kind {
		case api.Read:
			v.Old, v.New, v.Words = 8, 9, make([]uint64, 2000)
		case api.Write:
			v.N, v.Old, v.New = minInt, 8, 9
		case api.Cas:
			v.N, v.Words = maxInt, make([]uint64, 2000)
		case api.Add:
			v.N, v.Old, v.Words = -1, 8, make([]uint64, 2000)
		}
		accepted(t, q, v, lines, api.OK)
	}
	m := n.Copy()
	for range used {
		d, completed := p.Step(n)
		completes(t, q, m, d.Code, d.Words...)
		if !completed {
			t.Error("a verb of one piece does not complete")
		}
	}
	holds(t, m, contents(n))
}
