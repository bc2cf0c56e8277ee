package fabric_test

import (
	"bytes"
	"slices"
	"testing"

	"bodega/api"
	"bodega/fabric"
)

// orphaned returns a fabric with four live pairs that have pending verbs and five orphans, those of compute node 2
// first. Each orphan has two pieces.
func orphaned(t *testing.T) *fabric.Fabric {
	t.Helper()
	f := usual(t)
	post(t, f, 2, add(2, 41, 1), add(0, 41, 1), add(2, 41, 2), add(0, 41, 2))
	post(t, f, 1, writes(2, 47, 1, 2), writes(1, 47, 1, 2), writes(0, 47, 1, 2))
	die(t, f, 2)
	die(t, f, 1)
	restart(t, f, 1, 3)
	post(t, f, 1, add(2, 40, 1), add(0, 40, 1))
	post(t, f, 0, add(2, 40, 1), add(1, 40, 1))
	return f
}

// others are the live pairs of orphaned.
func others() []fabric.Choice {
	return []fabric.Choice{live(0, 1), live(0, 2), live(1, 0), live(1, 2)}
}

// chain is how orphans stand in line: each has a compute node and a memory node.
func chain(l ...[2]int) []fabric.Choice {
	out := others()
	for i, x := range l {
		out = append(out, orphanOf(i, x[0], x[1]))
	}
	return out
}

// Promise 6.3: the live pairs come first, by compute node and memory node, whichever was posted first; the orphans come
// behind them in their order.
func TestChoices(t *testing.T) {
	f := orphaned(t)
	chooses(t, f, chain([2]int{2, 0}, [2]int{2, 2}, [2]int{1, 0}, [2]int{1, 1}, [2]int{1, 2})...)
	// Those of compute node 0 come last, though there are live pairs of compute nodes 0 and 1.
	die(t, f, 0)
	restart(t, f, 0, 3)
	restart(t, f, 2, 3)
	post(t, f, 2, add(1, 40, 1))
	post(t, f, 0, add(2, 40, 1), add(0, 40, 1))
	want := []fabric.Choice{live(0, 0), live(0, 2), live(1, 0), live(1, 2), live(2, 1), orphanOf(0, 2, 0), orphanOf(1, 2, 2),
		orphanOf(2, 1, 0), orphanOf(3, 1, 1), orphanOf(4, 1, 2), orphanOf(5, 0, 1), orphanOf(6, 0, 2)}
	chooses(t, f, want...)
	// What Choices returns is new (rule R2), and Choices changes nothing.
	clear(append(f.Choices(), fabric.Choice{}))
	chooses(t, f, want...)
}

// Promise 6.3: with all compute nodes and memory nodes there can be.
func TestChoicesOfTheGreatestFabric(t *testing.T) {
	f := made(t, 5, 6, lines)
	var want, dead []fabric.Choice
	for _, client := range []int{3, 0, 5, 1, 4, 2} {
		post(t, f, client, add(4, 40, 1), add(2, 40, 1), add(0, 40, 1), add(3, 40, 1), add(1, 40, 1))
	}
	for client := range 6 {
		for node := range 5 {
			want = append(want, live(client, node))
		}
	}
	chooses(t, f, want...)
	for _, client := range []int{5, 0, 3, 1, 2, 4} {
		die(t, f, client)
		for node := range 5 {
			dead = append(dead, orphanOf(len(dead), client, node))
		}
	}
	chooses(t, f, dead...)
	for range dead {
		steps(t, f, orphan(0))
	}
	chooses(t, f)
	for node := range 5 {
		holds(t, f, node, 6)
	}
}

// Promise 6.3: a pair is among the choices until its last piece has been executed.
func TestChoicesEnd(t *testing.T) {
	f := usual(t)
	post(t, f, 1, writes(1, 47, counted(10)...), add(0, 40, 1), add(1, 40, 1))
	for range 3 {
		chooses(t, f, live(1, 0), live(1, 1))
		steps(t, f, live(1, 1))
	}
	chooses(t, f, live(1, 0), live(1, 1))
	steps(t, f, live(1, 0))
	chooses(t, f, live(1, 1))
	steps(t, f, live(1, 1))
	chooses(t, f)
}

// Promise 6.3: Step executes one piece of the named pair only.
func TestStep(t *testing.T) {
	f := usual(t)
	post(t, f, 0, writes(1, 46, counted(3)...), add(2, 40, 1))
	post(t, f, 1, writes(1, 46, 7, 8, 9))
	steps(t, f, live(0, 1))
	if words, _ := f.Node(1).Read(46, 3); !slices.Equal(words, []uint64{1, 2, 0}) {
		t.Errorf("after one piece the memory node holds %v", words)
	}
	steps(t, f, live(1, 1), live(1, 1))
	if words, _ := f.Node(1).Read(46, 3); !slices.Equal(words, []uint64{7, 8, 9}) {
		t.Errorf("after the other verb the memory node holds %v", words)
	}
	steps(t, f, live(0, 1))
	if words, _ := f.Node(1).Read(46, 3); !slices.Equal(words, []uint64{7, 8, 3}) {
		t.Errorf("after both verbs the memory node holds %v", words)
	}
	holds(t, f, 2, 0)
	takes(t, f, 1, ok())
	takesNothing(t, f, 0)
	waits(t, f, 0, 1)
}

// Promise 6.3: nothing is executed for a pair that does not exist or has nothing pending.
func TestStepOfNothing(t *testing.T) {
	f := orphaned(t)
	l := []fabric.Choice{live(0, 0), live(1, 1), live(2, 0), live(2, 2), live(2, 3), live(3, 0), live(-1, 0), live(0, -1), live(0, 3), live(0, 5),
		live(maxInt, 0), live(0, maxInt), live(minInt, minInt), orphan(5), orphan(6), orphan(maxInt)}
	for _, i := range []int{-2, -3, -1 << 32, minInt} {
		l = append(l, orphanOf(i, 0, 1), orphanOf(i, 1, 0), orphanOf(i, 2, 0), orphanOf(i, 0, 0))
	}
	for _, c := range l {
		unchanged(t, f, "a Step of nothing", func() {
			if f.Step(c) {
				t.Errorf("Step(%+v) has executed a piece", c)
			}
		})
	}
	g := usual(t)
	for _, c := range []fabric.Choice{{}, orphan(1), live(0, 0), live(2, 2)} {
		if g.Step(c) {
			t.Errorf("Step(%+v) of a new fabric has executed a piece", c)
		}
	}
}

// Promise 6.3: for an orphan only Orphan counts.
func TestStepOfAnOrphan(t *testing.T) {
	for _, x := range [][2]int{{0, 0}, {2, 0}, {0, 1}, {-1, -1}, {9, 9}, {minInt, maxInt}} {
		f := orphaned(t)
		steps(t, f, orphanOf(0, x[0], x[1]))
		if words, _ := f.Node(0).Read(40, 2); !slices.Equal(words, []uint64{0, 1}) {
			t.Errorf("Client %d, Node %d: the memory node holds %v", x[0], x[1], words)
		}
		if len(f.Choices()) != 9 {
			t.Errorf("Client %d, Node %d: the choices are %+v", x[0], x[1], f.Choices())
		}
	}
}

// Promise 6.3: an orphan that has nothing pending any more is removed at once, and the later ones move up.
func TestOrphansMoveUp(t *testing.T) {
	f := orphaned(t)
	steps(t, f, orphan(1))
	chooses(t, f, chain([2]int{2, 0}, [2]int{2, 2}, [2]int{1, 0}, [2]int{1, 1}, [2]int{1, 2})...)
	steps(t, f, orphan(1))
	chooses(t, f, chain([2]int{2, 0}, [2]int{1, 0}, [2]int{1, 1}, [2]int{1, 2})...)
	steps(t, f, orphan(1), orphan(2), orphan(1))
	chooses(t, f, chain([2]int{2, 0}, [2]int{1, 1}, [2]int{1, 2})...)
	if f.Step(orphan(3)) {
		t.Error("there is a fourth orphan")
	}
	// Only one piece of the orphan that is number 1 now is left.
	steps(t, f, orphan(1))
	chooses(t, f, chain([2]int{2, 0}, [2]int{1, 2})...)
	steps(t, f, orphan(0), orphan(0))
	chooses(t, f, chain([2]int{1, 2})...)
	steps(t, f, orphan(0), orphan(0))
	chooses(t, f, chain()...)
	for node, want := range [][]uint64{{0, 3, 0, 0, 0, 0, 0, 1, 2}, {0, 0, 0, 0, 0, 0, 0, 1, 2}, {0, 3, 0, 0, 0, 0, 0, 1, 2}} {
		holds(t, f, node, want...)
	}
}

// Promise 6.3: the completions of orphans' verbs are lost: a batch of the same compute node knows nothing of them.
func TestOrphansCompletionsAreLost(t *testing.T) {
	f := usual(t)
	post(t, f, 1, add(0, 40, 1), add(0, 40, 2), add(1, 40, 3))
	steps(t, f, live(1, 0))
	die(t, f, 1)
	restart(t, f, 1, 3)
	post(t, f, 1, add(1, 40, 10), add(0, 40, 20))
	steps(t, f, orphan(0), orphan(0))
	waits(t, f, 1, 2)
	takesNothing(t, f, 1)
	finish(t, f)
	takes(t, f, 1, ok(3), ok(3))
	takesNothing(t, f, 1)
}

// Promise 6.3: a verb that a memory node does not execute is a step, too; for an orphan it goes the same way.
func TestStepsThatFail(t *testing.T) {
	f := orphaned(t)
	f.Node(2).Fail()
	steps(t, f, live(0, 2))
	chooses(t, f, live(0, 1), live(1, 0), live(1, 2), orphanOf(0, 2, 0), orphanOf(1, 2, 2), orphanOf(2, 1, 0), orphanOf(3, 1, 1), orphanOf(4, 1, 2))
	// One verb of two pieces ends with the first of them.
	steps(t, f, orphan(4), orphan(1))
	chooses(t, f, live(0, 1), live(1, 0), live(1, 2), orphanOf(0, 2, 0), orphanOf(1, 2, 2), orphanOf(2, 1, 0), orphanOf(3, 1, 1))
	f.Node(2).Back()
	// The verbs present the boot number that the node had before.
	steps(t, f, live(1, 2), orphan(1))
	chooses(t, f, live(0, 1), live(1, 0), orphanOf(0, 2, 0), orphanOf(1, 1, 0), orphanOf(2, 1, 1))
	holds(t, f, 2, make([]uint64, 10)...)
	steps(t, f, live(0, 1), live(1, 0))
	takes(t, f, 0, failed(api.ErrGone), ok(0))
	takes(t, f, 1, failed(api.ErrRefused), ok(0))
}

// Promise 6.3: DropOrphan removes the orphan of that number with all its verbs, and the later ones move up.
func TestDropOrphan(t *testing.T) {
	f := orphaned(t)
	for _, i := range []int{minInt, -1 << 32, -2, -1, 5, 6, 1 << 32, maxInt} {
		unchanged(t, f, "DropOrphan of none", func() {
			if f.DropOrphan(i) {
				t.Errorf("DropOrphan(%d) has removed an orphan", i)
			}
		})
	}
	steps(t, f, orphan(4))
	for _, x := range []struct {
		i    int
		left [][2]int
	}{
		{1, [][2]int{{2, 0}, {1, 0}, {1, 1}, {1, 2}}}, {3, [][2]int{{2, 0}, {1, 0}, {1, 1}}}, {0, [][2]int{{1, 0}, {1, 1}}},
		{1, [][2]int{{1, 0}}}, {0, nil},
	} {
		if !f.DropOrphan(x.i) {
			t.Errorf("DropOrphan(%d): there is none", x.i)
		}
		chooses(t, f, chain(x.left...)...)
	}
	if f.DropOrphan(0) {
		t.Error("there is one more orphan")
	}
	// What was executed stays, and nothing more is.
	holds(t, f, 2, 0, 0, 0, 0, 0, 0, 0, 1, 0)
	for node := range 2 {
		holds(t, f, node, make([]uint64, 10)...)
	}
	steps(t, f, live(0, 2), live(0, 1))
	takes(t, f, 0, ok(0), ok(0))
}

// Promise 6.3: an orphan belongs to the incarnation that has posted its verbs.
func TestOrphansOfAnOlderIncarnation(t *testing.T) {
	f := usual(t)
	for range 2 {
		post(t, f, 0, add(0, 40, 1))
		die(t, f, 0)
		restart(t, f, 0, f.Inc(0)+2)
	}
	post(t, f, 0, add(0, 40, 10))
	f.Node(0).Write(api.LineDoors*api.LineWords, []uint64{3})
	steps(t, f, orphan(0))
	holds(t, f, 0, 0)
	steps(t, f, orphan(0))
	holds(t, f, 0, 1)
	steps(t, f, live(0, 0))
	takes(t, f, 0, ok(1))
	chooses(t, f)
}

// Promise 6.6: the verbs to one memory node take effect in order, those to different ones in any order: the reachable
// pairs of numbers of executed pieces are all there are, and each piece changes only its own words.
func TestOrders(t *testing.T) {
	f := made(t, 2, 1, lines)
	l := [][]api.Verb{{writes(0, 46, 1, 2, 3, 4), add(0, 46, 9), cas(0, 47, 2, 7)}, {add(1, 40, 1), writes(1, 40, 5), add(1, 40, 1)}}
	after := [][][]uint64{{{0, 0, 0, 0}, {1, 2, 0, 0}, {1, 2, 3, 4}, {10, 2, 3, 4}, {10, 7, 3, 4}}, {{0}, {1}, {5}, {6}}}
	at := []int{46, 40}
	post(t, f, 0, l[0][0], l[1][0], l[1][1], l[0][1], l[0][2], l[1][2])
	for mask := range 1 << 7 {
		g, done := f.Copy(), []int{0, 0}
		for i := range 7 {
			node := mask >> i & 1
			if g.Step(live(0, node)) {
				done[node]++
			}
			for node := range 2 {
				want := after[node][done[node]]
				if words, _ := g.Node(node).Read(at[node], len(want)); !slices.Equal(words, want) {
					t.Fatalf("after %v pieces memory node %d holds %v; want %v", done, node, words, want)
				}
			}
		}
	}
}

// Promise 6.6: whichever pieces were executed when the compute node died, and whichever are executed of what it has
// left behind: on each memory node it is a prefix, and every prefix that has begun can be reached.
func TestPrefixes(t *testing.T) {
	whole := []api.Verb{writes(0, 47, 1, 2), add(0, 40, 1), writes(1, 40, 5), add(1, 40, 1), cas(1, 40, 6, 9)}
	for _, before := range [][2]int{{0, 0}, {1, 0}, {0, 2}, {2, 1}, {2, 2}, {3, 0}, {0, 3}, {3, 3}} {
		f := made(t, 2, 1, lines)
		post(t, f, 0, whole...)
		steps(t, f, times(before[0], live(0, 0))...)
		steps(t, f, times(before[1], live(0, 1))...)
		die(t, f, 0)
		seen := map[[2]int]bool{}
		prefixes(t, f, before, seen)
		if want := (4 - before[0]) * (4 - before[1]); len(seen) != want {
			t.Errorf("died after %v pieces: the prefixes %v; want %d", before, seen, want)
		}
	}
}

// prefixes visits all states that the orphans of TestPrefixes may reach from here on.
func prefixes(t *testing.T, f *fabric.Fabric, done [2]int, seen map[[2]int]bool) {
	t.Helper()
	if seen[done] {
		return
	}
	seen[done] = true
	after := [2][4][]uint64{{{0, 0, 0}, {0, 1, 0}, {0, 1, 2}, {1, 1, 2}}, {{0, 0, 0}, {5, 0, 0}, {6, 0, 0}, {9, 0, 0}}}
	for node := range 2 {
		words, _ := f.Node(node).Read(40, 9)
		if got := []uint64{words[0], words[7], words[8]}; !slices.Equal(got, after[node][done[node]]) {
			t.Errorf("after %v pieces memory node %d holds %v", done, node, got)
		}
	}
	for i, c := range f.Choices() {
		g, next := f.Copy(), done
		steps(t, g, orphan(i))
		next[c.Node]++
		prefixes(t, g, next, seen)
		dropped := f.Copy()
		dropped.DropOrphan(i)
		for node := range 2 {
			if !bytes.Equal(dropped.Node(node).Image(), f.Node(node).Image()) {
				t.Errorf("after %v pieces DropOrphan has changed memory node %d", done, node)
			}
		}
	}
}
