package fabric_test

import (
	"fmt"
	"slices"
	"testing"

	"bodega/api"
	"bodega/fabric"
	"bodega/verb"
)

// Promise 6.2: the order of Post's errors: all clients with all lists, each of which has one error or several.
func TestPostErrors(t *testing.T) {
	fine, wild, far := add(1, 40, 1), api.Verb{Kind: 5}, add(3, 40, 1)
	lists := []struct {
		l    []api.Verb
		want api.Errno
	}{
		{nil, api.ErrArg}, {[]api.Verb{}, api.ErrArg},
		{slices.Repeat([]api.Verb{fine}, 1025), api.ErrLimit}, {slices.Repeat([]api.Verb{wild}, 1025), api.ErrLimit},
		{slices.Repeat([]api.Verb{far}, 3000), api.ErrLimit}, {[]api.Verb{wild}, api.ErrArg}, {[]api.Verb{far}, api.ErrRange},
		{append(slices.Repeat([]api.Verb{fine}, 1023), far), api.ErrRange}, {append(slices.Repeat([]api.Verb{fine}, 1023), wild), api.ErrArg},
	}
	for client, first := range map[int]api.Errno{-1: api.ErrArg, 3: api.ErrArg, 2: api.ErrArg, 1: api.ErrBusy, 0: api.OK} {
		f := usual(t)
		post(t, f, 1, fine)
		post(t, f, 2, fine)
		die(t, f, 2)
		for i, x := range lists {
			want := x.want
			if first != api.OK {
				want = first
			}
			unchanged(t, f, "a Post with an error", func() {
				if code := f.Post(client, x.l); code != want {
					t.Errorf("Post(%d, list %d) = %v; want %v", client, i, code, want)
				}
			})
		}
	}
}

// Promise 6.2: the error is that of the first verb that is not valid, wherever it stands, and nothing is posted then.
func TestFirstInvalidVerb(t *testing.T) {
	invalid := []api.Verb{{}, {Kind: 5, Node: 9}, reads(0, 40, 0), writes(9, 40), reads(3, 40, 1), reads(-1, 40, 1), add(0, 64, 1), reads(0, -1, 1),
		writes(0, 63, 1, 2), reads(0, 31, 2), writes(0, 23, 1, 2)}
	f := usual(t)
	for _, first := range invalid {
		for _, second := range invalid {
			for _, l := range [][]api.Verb{{first}, {add(0, 40, 1), first}, {add(2, 40, 1), reads(1, 40, 1), first, second}, {first, add(0, 40, 1), second}} {
				want := verb.Valid(first, 3, lines)
				unchanged(t, f, "a list with invalid verbs", func() {
					if code := f.Post(1, l); code != want || want == api.OK {
						t.Errorf("Post(1, %+v) = %v; want %v", l, code, want)
					}
				})
			}
		}
	}
	chooses(t, f)
}

// Promise 6.2: verbs are valid for the fabric's own numbers of nodes and lines.
func TestPostKnowsNodesAndLines(t *testing.T) {
	for nodes := 1; nodes <= api.MaxNodes; nodes++ {
		for _, lines := range []int{1, 2, 8, 255, 256} {
			f := made(t, nodes, 1, lines)
			for _, l := range [][]api.Verb{{add(nodes, 0, 1)}, {add(nodes-1, 8*lines, 1)}, {add(0, 0, 1), add(nodes, 0, 1)}} {
				if code := f.Post(0, l); code != api.ErrRange {
					t.Errorf("%d nodes of %d lines: Post(0, %+v) = %v", nodes, lines, l, code)
				}
			}
			post(t, f, 0, add(nodes-1, 8*lines-1, 1))
		}
	}
}

// Promise 6.2: each verb goes to the pair of its node, in the order of the list, and its completion stands in its place.
func TestBatch(t *testing.T) {
	f := usual(t)
	post(t, f, 1, cas(2, 40, 0, 1), reads(0, 40, 1), cas(2, 40, 1, 2), writes(1, 40, 5), add(2, 40, 3), reads(1, 40, 2), reads(2, 40, 1))
	for i, node := range []int{2, 1, 2, 2, 0, 2, 1} {
		takesNothing(t, f, 1)
		waits(t, f, 1, 7-i)
		steps(t, f, live(1, node))
	}
	waits(t, f, 1, 0)
	chooses(t, f)
	takes(t, f, 1, ok(0), ok(0), ok(1), ok(), ok(2), ok(5, 0), ok(5))
	takesNothing(t, f, 1)
	post(t, f, 1, reads(2, 40, 1))
	steps(t, f, live(1, 2))
	takes(t, f, 1, ok(5))
}

// Promise 6.2: a batch is not taken yet as long as Take has not returned it; until then nothing else can be posted.
func TestBusy(t *testing.T) {
	f := usual(t)
	busy := func(want bool) {
		t.Helper()
		unchanged(t, f, "Post beside a batch", func() {
			if code := f.Post(0, []api.Verb{add(1, 40, 1)}); (code == api.ErrBusy) != want {
				t.Errorf("Post beside a batch: %v", code)
			}
		})
	}
	post(t, f, 0, writes(0, 47, 1, 2), add(1, 40, 1))
	busy(true)
	steps(t, f, live(0, 0))
	waits(t, f, 0, 2)
	busy(true)
	steps(t, f, live(0, 0), live(0, 1))
	waits(t, f, 0, 0)
	busy(true)
	takes(t, f, 0, ok(), ok(0))
	post(t, f, 0, add(1, 40, 1))
	// The others are not busy.
	post(t, f, 1, add(1, 40, 1))
	waits(t, f, 0, 1)
	waits(t, f, 1, 1)
	waits(t, f, 2, 0)
	steps(t, f, live(0, 1), live(1, 1))
	takes(t, f, 1, ok(2))
	takes(t, f, 0, ok(1))
}

// Promise 6.2: the greatest batch, on one node and on all nodes in turn.
func TestGreatestBatch(t *testing.T) {
	for _, nodes := range []int{1, 5} {
		f := made(t, nodes, 1, lines)
		var l []api.Verb
		var want []api.Done
		for i := range api.MaxBatch {
			l = append(l, add(i%nodes, 40, 1))
			want = append(want, ok(uint64(i/nodes)))
		}
		for range 2 {
			post(t, f, 0, l...)
			waits(t, f, 0, api.MaxBatch)
			finish(t, f)
			takes(t, f, 0, want...)
			for i := range nodes {
				f.Node(i).Write(40, []uint64{0})
			}
		}
	}
}

// Promise 6.2: Take returns the completions of verbs that fail, too.
func TestTakeOfFailures(t *testing.T) {
	f := usual(t)
	f.Node(1).Fail()
	f.Node(2).Write(api.LineDoors*api.LineWords, []uint64{3})
	post(t, f, 0, add(0, 40, 1), reads(1, 0, 1), add(2, 40, 1), reads(2, api.LineDoors*api.LineWords, 1), api.Verb{Kind: api.Add, At: 40, Key: 1})
	finish(t, f)
	takes(t, f, 0, ok(0), failed(api.ErrGone), failed(api.ErrRefused), ok(3), failed(api.ErrRefused))
}

// Promise 6.2: the completions do not depend on the order of the steps.
func TestCompletionsOfAllSchedules(t *testing.T) {
	f := usual(t)
	post(t, f, 2, add(1, 40, 1), reads(0, 40, 16), writes(1, 47, 1, 2), add(2, 40, 2), reads(1, 40, 10), add(0, 40, 3))
	want := []api.Done{ok(0), ok(make([]uint64, 16)...), ok(), ok(0), ok(1, 0, 0, 0, 0, 0, 0, 1, 2, 0), ok(0)}
	seen := map[string]int{}
	var ends int
	var visit func(f *fabric.Fabric)
	visit = func(f *fabric.Fabric) {
		l := f.Choices()
		if len(l) == 0 {
			takes(t, f.Copy(), 2, want...)
			ends++
			return
		}
		takesNothing(t, f, 2)
		seen[fmt.Sprint(f.Waiting(2))]++
		for _, c := range l {
			g := f.Copy()
			steps(t, g, c)
			visit(g)
		}
	}
	visit(f)
	// 3, 5 and 1 pieces on the three nodes.
	if ends != 504 || len(seen) != 6 {
		t.Errorf("%d schedules; waiting %v", ends, seen)
	}
}

// Promise 6.2: a compute node that is not alive takes nothing, and has nothing to wait for.
func TestTakeOfTheDead(t *testing.T) {
	for executed := range 3 {
		f := usual(t)
		post(t, f, 0, add(1, 40, 1), add(1, 40, 1))
		steps(t, f, times(executed, live(0, 1))...)
		waits(t, f, 0, 2-executed)
		die(t, f, 0)
		waits(t, f, 0, 0)
		takesNothing(t, f, 0)
		finish(t, f)
		takesNothing(t, f, 0)
		restart(t, f, 0, 3)
		waits(t, f, 0, 0)
		takesNothing(t, f, 0)
	}
}

// Rule R2: Post neither changes nor keeps its verbs.
func TestPostKeepsNothing(t *testing.T) {
	f := usual(t)
	words := counted(10)
	l := []api.Verb{writes(0, 40, words...), add(1, 40, 5)}
	l[0].Words = words
	post(t, f, 0, l...)
	if !slices.Equal(words, counted(10)) || !verb.SameAll(l, []api.Verb{writes(0, 40, counted(10)...), add(1, 40, 5)}) {
		t.Errorf("Post has changed the verbs to %+v", l)
	}
	clear(words)
	l[1].New = 6
	finish(t, f)
	holds(t, f, 0, counted(10)...)
	holds(t, f, 1, 5)
}

// Rule R2: what Take returns shares no memory with the fabric, nor within itself.
func TestTakeReturnsNewMemory(t *testing.T) {
	f := usual(t)
	f.Node(0).Write(40, counted(10))
	post(t, f, 0, reads(0, 40, 10), reads(0, 40, 10), reads(0, 40, 10))
	finish(t, f)
	got, _ := f.Take(0)
	clear(append(got[0].Words, 1, 2, 3))
	clear(append(got[2].Words[:2], 4, 5))
	if !slices.Equal(got[1].Words, counted(10)) {
		t.Errorf("the second completion has become %v", got[1].Words)
	}
	holds(t, f, 0, counted(10)...)
	post(t, f, 0, reads(0, 40, 10))
	finish(t, f)
	takes(t, f, 0, ok(counted(10)...))
}
