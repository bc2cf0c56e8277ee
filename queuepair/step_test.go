package queuepair_test

import (
	"slices"
	"testing"

	"bodega/api"
	"bodega/memnode"
	"bodega/queuepair"
	"bodega/verb"
)

// The example of chapter 5.
func TestExample(t *testing.T) {
	p, n := usual(t, writes(45, counted(10)...)), filled(t, lines)
	want := contents(n)
	goesOn(t, p, n)
	n.Fail()
	completes(t, p, n, api.ErrGone)
	isEmpty(t, p)
	copy(want[45:], counted(3))
	holds(t, n, want)
}

// Promise 5.3: each kind, at the borders of lines: as many steps as pieces, each of which executes its words and no
// others, and the words of the completion.
func TestStep(t *testing.T) {
	for at := 32; at < 49; at++ {
		for count := 1; count <= 26; count++ {
			isExecuted(t, reads(at, count))
			isExecuted(t, writes(at, counted(count)...))
		}
		before := contents(filled(t, lines))[at]
		isExecuted(t, cas(at, before, 7))
		isExecuted(t, cas(at, before+1, 7))
		isExecuted(t, cas(at, before, before))
		for _, by := range []uint64{0, 1, 1 << 63, -before, top} {
			isExecuted(t, add(at, by))
		}
	}
}

// Promise 5.3: the same in lines 0 to 3.
func TestStepInControlLines(t *testing.T) {
	for at := range 32 {
		for count := 1; at+count <= 32; count++ {
			isExecuted(t, api.Verb{Kind: api.Read, Node: number, At: at, N: count})
			// The first words are left as they are, so that no check fails.
			if at > 1 && at+count <= 24 {
				isExecuted(t, api.Verb{Kind: api.Write, Node: number, At: at, Words: counted(count)})
			}
		}
		if at < 24 {
			before := contents(filled(t, lines))[at]
			isExecuted(t, api.Verb{Kind: api.Cas, Node: number, At: at, Old: before, New: 9})
			isExecuted(t, api.Verb{Kind: api.Cas, Node: number, At: at, Old: 9, New: 10})
			isExecuted(t, api.Verb{Kind: api.Add, Node: number, At: at, New: 4})
		}
	}
}

// isExecuted fails the test unless a verb that no check stops does what promise 5.3 says, word by word.
func isExecuted(t *testing.T, v api.Verb) {
	t.Helper()
	p, n := usual(t, v), filled(t, lines)
	words := contents(n)
	var want []uint64
	for i := range verb.Count(v) {
		at := v.At + i
		if i > 0 && at%8 == 0 {
			goesOn(t, p, n)
			holds(t, n, words)
		}
		if v.Kind != api.Write {
			want = append(want, words[at])
		}
		switch {
		case v.Kind == api.Write:
			words[at] = v.Words[i]
		case v.Kind == api.Cas && words[at] == v.Old:
			words[at] = v.New
		case v.Kind == api.Add:
			words[at] += v.New
		}
	}
	completes(t, p, n, api.OK, want...)
	holds(t, n, words)
	isEmpty(t, p)
}

// change is what has become of a node between two steps.
type change struct{ down, small, closed, booted, rekeyed bool }

// changes are all combinations.
func changes() []change {
	var l []change
	for bits := range 32 {
		l = append(l, change{bits&1 != 0, bits&2 != 0, bits&4 != 0, bits&8 != 0, bits&16 != 0})
	}
	return l
}

// applied returns the node after the change; a small one ends within the verb v.
func (c change) applied(t *testing.T, n *memnode.Node, v api.Verb) *memnode.Node {
	t.Helper()
	words := contents(n)
	if c.closed {
		words[24+client]++
	}
	if c.booted {
		words[1]++
	}
	if c.rekeyed {
		words[0]++
	}
	if c.small {
		last := (v.At + verb.Count(v) - 1) / 8
		words = words[:8*last]
	}
	n = holding(t, words)
	if c.down {
		n.Fail()
	}
	return n
}

// code returns the error that promise 5.3 asks for after the change.
func (c change) code(v api.Verb) api.Errno {
	control := v.At < 24 || v.At < 32 && v.Kind == api.Read
	switch {
	case c.down:
		return api.ErrGone
	case c.small:
		return api.ErrRange
	case control && v.Kind == api.Read:
		return api.OK
	case c.closed:
		return api.ErrRefused
	case control:
		return api.OK
	case c.booted || c.rekeyed:
		return api.ErrRefused
	}
	return api.OK
}

// Promise 5.3: the order of the checks before each piece of verbs of each kind and class. A verb that is stopped has
// executed the pieces before and completes without words (4.5); the verb behind it begins with its own first piece.
func TestChecksBeforeEachPiece(t *testing.T) {
	control := func(v api.Verb) api.Verb {
		v.Key, v.Boot = 0, 0
		return v
	}
	for _, v := range []api.Verb{
		reads(38, 20), writes(38, counted(20)...), writes(26, counted(20)...), reads(40, 8), writes(40, counted(8)...), cas(40, 1, 2), add(40, 1), add(26, 1),
		control(reads(6, 26)), control(reads(24, 8)), control(writes(6, counted(18)...)), control(cas(9, 1, 2)), control(add(23, 1)),
	} {
		for executed := range len(verb.Pieces(v)) {
			for _, c := range changes() {
				isChecked(t, v, executed, c)
			}
		}
	}
}

// isChecked fails the test unless a node that changes when so many pieces of the verb are executed answers as it must.
func isChecked(t *testing.T, v api.Verb, executed int, c change) {
	t.Helper()
	next := api.Verb{Kind: api.Read, Node: number, At: 7, N: 2}
	p, n := usual(t, v, next), filled(t, lines)
	for range executed {
		goesOn(t, p, n)
	}
	n = c.applied(t, n, v)
	want := contents(n)
	code := c.code(v)
	if code != api.OK {
		completes(t, p, n, code)
		holds(t, n, want)
		isFirst(t, p, next, 0)
		return
	}
	for range len(verb.Pieces(v)) - executed - 1 {
		goesOn(t, p, n)
	}
	d, completed := p.Step(n)
	if !completed || d.Code != api.OK || len(d.Words) != verb.Returns(v) {
		t.Errorf("%+v, %+v before piece %d: Step = %+v, %v", v, c, executed, d, completed)
	}
	isFirst(t, p, next, 0)
}

// Promise 5.3: the door is that of the pair's compute node and of no other.
func TestDoors(t *testing.T) {
	for c := range api.MaxClients {
		for door := range uint64(8) {
			for _, others := range []uint64{0, top} {
				n := filled(t, lines)
				doors := slices.Repeat([]uint64{others}, 8)
				doors[c] = door
				write(t, n, 24, doors...)
				for inc := range 8 {
					want := api.OK
					if uint64(inc) < door {
						want = api.ErrRefused
					}
					p := made(t, c, inc, number)
					post(t, p, writes(40, 1), writes(8, 1))
					completes(t, p, n, want)
					completes(t, p, n, want)
				}
			}
		}
	}
}

// Promise 5.3: a node of so few lines that it has no doors admits every incarnation.
func TestNodesWithoutDoors(t *testing.T) {
	for size := 1; size <= 4; size++ {
		for inc := range door + 1 {
			want := api.OK
			if size > 3 && inc < door {
				want = api.ErrRefused
			}
			p, n := made(t, client, inc, number), filled(t, size)
			last := 8*min(size, 3) - 1
			post(t, p, writes(last, 4), writes(last+1, 5))
			completes(t, p, n, want)
			if size < 4 {
				want = api.ErrRange
			}
			completes(t, p, n, want)
		}
	}
}

// Promise 5.3: key, boot number and door are those of the node now, also if the verb itself has just changed them, or
// the verb before it.
func TestVerbsThatChangeTheChecks(t *testing.T) {
	n := filled(t, lines)
	doors := counted(16)
	doors[client] = inc + 1
	p := usual(t, writes(24, doors...), reads(40, 1))
	goesOn(t, p, n)
	completes(t, p, n, api.ErrRefused)
	completes(t, p, n, api.ErrRefused)
	want := contents(filled(t, lines))
	copy(want[24:], doors[:8])
	holds(t, n, want)

	n = filled(t, lines)
	p = usual(t, cas(0, key, key+1), add(40, 1), keyed(api.Verb{Kind: api.Cas, At: 1, Old: boot, New: boot + 1}))
	late := add(40, 1)
	late.Key++
	post(t, p, late)
	late.Boot++
	post(t, p, late)
	completes(t, p, n, api.OK, key)
	completes(t, p, n, api.ErrRefused)
	completes(t, p, n, api.OK, boot)
	completes(t, p, n, api.ErrRefused)
	completes(t, p, n, api.OK, contents(filled(t, lines))[40])
}

// run executes all pending verbs on a node and returns their completions.
func run(p *queuepair.Pair, n *memnode.Node) []api.Done {
	var l []api.Done
	for p.Pending() > 0 {
		if d, completed := p.Step(n); completed {
			l = append(l, d)
		}
	}
	return l
}

// Promise 5.3: a node that fails and comes back between two steps has another boot number: a verb of class Keyed ends
// there, and those of class Control go on.
func TestNodeThatComesBack(t *testing.T) {
	for _, x := range []struct {
		v    api.Verb
		want api.Errno
	}{
		{writes(39, counted(10)...), api.ErrRefused}, {reads(39, 10), api.ErrRefused}, {writes(30, counted(3)...), api.ErrRefused},
		{reads(15, 17), api.OK}, {reads(7, 2), api.OK}, {writes(7, counted(9)...), api.OK}, {writes(15, 1, 2), api.OK},
	} {
		for executed := 1; executed < len(verb.Pieces(x.v)); executed++ {
			p, n := usual(t, x.v), filled(t, lines)
			for range executed {
				goesOn(t, p, n)
			}
			n.Fail()
			if !n.Back() {
				t.Fatal("the node does not come back")
			}
			isFirst(t, p, x.v, executed)
			got := run(p, n)
			if len(got) != 1 || got[0].Code != x.want || x.want != api.OK && len(got[0].Words) != 0 {
				t.Errorf("%+v, back before piece %d: %+v; want %v", x.v, executed, got, x.want)
			}
		}
	}
}

// Promise 5.3: all pending verbs of a node that is down complete one by one, and none of them has done anything.
func TestNodeThatIsDown(t *testing.T) {
	l := []api.Verb{reads(39, 10), writes(39, counted(10)...), cas(40, 1, 2), add(40, 1), reads(0, 32)}
	p, n := usual(t, l...), filled(t, lines)
	want := contents(n)
	n.Fail()
	for _, v := range l {
		isFirst(t, p, v, 0)
		completes(t, p, n, api.ErrGone)
	}
	isEmpty(t, p)
	goesOn(t, p, n)
	holds(t, n, want)
	if n.Up() {
		t.Error("the node is up")
	}
}

// Promise 5.3: a Read returns the words of each piece as they were when it was executed.
func TestTornRead(t *testing.T) {
	p, n := usual(t, reads(46, 12)), filled(t, lines)
	want := slices.Clone(contents(n)[46:58])
	goesOn(t, p, n)
	write(t, n, 46, 1, 2)
	want[2] = 3
	write(t, n, 48, 3)
	goesOn(t, p, n)
	write(t, n, 46, counted(10)...)
	want[11] = 4
	write(t, n, 57, 4)
	completes(t, p, n, api.OK, want...)
}

// Promise 5.3: each step is executed on the node that it is given, of however many lines above the verb's last one.
func TestOtherNodes(t *testing.T) {
	p := usual(t, writes(39, counted(9)...), reads(39, 9))
	first, second := filled(t, 6), filled(t, api.MaxLines)
	one, two := contents(first), contents(second)
	goesOn(t, p, first)
	completes(t, p, second, api.OK)
	one[39] = 1
	copy(two[40:], counted(9)[1:])
	holds(t, first, one)
	holds(t, second, two)
	goesOn(t, p, first)
	completes(t, p, second, api.OK, counted(9)...)
}

// Promise 5.3: the words that a stopped Read has read are in no later completion.
func TestStoppedRead(t *testing.T) {
	stops := []func(n *memnode.Node){
		func(n *memnode.Node) { n.Fail(); n.Back() },
		func(n *memnode.Node) { n.Write(0, []uint64{key + 1}) },
	}
	for _, stop := range stops {
		n := filled(t, lines)
		p := usual(t, reads(46, 12), api.Verb{Kind: api.Cas, Node: number, At: 9}, api.Verb{Kind: api.Read, Node: number, At: 7, N: 2})
		goesOn(t, p, n)
		goesOn(t, p, n)
		stop(n)
		want := contents(n)
		completes(t, p, n, api.ErrRefused)
		completes(t, p, n, api.OK, want[9])
		goesOn(t, p, n)
		completes(t, p, n, api.OK, want[7], want[8])
	}
}

// Promise 5.5: the order of the verbs decides what they do and return.
func TestOrderOfVerbs(t *testing.T) {
	n := filled(t, lines)
	write(t, n, 40, 2)
	got := run(usual(t, add(40, 1), cas(40, 3, 7), add(40, 1), writes(40, 5), cas(40, 8, 9), reads(40, 1)), n)
	for i, want := range [][]uint64{{2}, {3}, {7}, {}, {5}, {5}} {
		if got[i].Code != api.OK || !slices.Equal(got[i].Words, want) {
			t.Errorf("completion %d is %+v; want the words %v", i, got[i], want)
		}
	}
}
