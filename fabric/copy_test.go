package fabric_test

import (
	"bytes"
	"slices"
	"testing"

	"bodega/api"
	"bodega/fabric"
)

// mixed returns a fabric in which there is something of everything: batches that are begun, complete and in the middle
// of a verb, orphans, a dead compute node, and a memory node that is down.
func mixed(t *testing.T) *fabric.Fabric {
	t.Helper()
	f := made(t, 3, 4, lines)
	f.Node(0).Write(32, counted(32))
	post(t, f, 0, reads(0, 40, 20), add(1, 40, 1), reads(0, 32, 8))
	steps(t, f, live(0, 0), live(0, 1))
	post(t, f, 1, reads(0, 50, 2), writes(1, 41, 7))
	steps(t, f, live(1, 0), live(1, 1))
	post(t, f, 2, reads(0, 47, 4), writes(2, 47, 5, 6), add(1, 42, 1))
	steps(t, f, live(2, 0), live(2, 2))
	die(t, f, 2)
	die(t, f, 3)
	f.Node(2).Fail()
	return f
}

// acts returns something to do for everything that changes mixed. Each act changes it alone, too.
func acts() map[string]func(t *testing.T, f *fabric.Fabric) {
	return map[string]func(t *testing.T, f *fabric.Fabric){
		"a live step":         func(t *testing.T, f *fabric.Fabric) { steps(t, f, live(0, 0)) },
		"many live steps":     func(t *testing.T, f *fabric.Fabric) { steps(t, f, times(3, live(0, 0))...) },
		"an orphan's step":    func(t *testing.T, f *fabric.Fabric) { steps(t, f, orphan(0)) },
		"an orphan's end":     func(t *testing.T, f *fabric.Fabric) { steps(t, f, orphan(1)) },
		"a failing step":      func(t *testing.T, f *fabric.Fabric) { steps(t, f, orphan(2)) },
		"DropOrphan":          func(t *testing.T, f *fabric.Fabric) { f.DropOrphan(0) },
		"Die":                 func(t *testing.T, f *fabric.Fabric) { die(t, f, 0) },
		"Die with no pair":    func(t *testing.T, f *fabric.Fabric) { die(t, f, 1) },
		"Restart":             func(t *testing.T, f *fabric.Fabric) { restart(t, f, 2, 1) },
		"Restart and Post":    func(t *testing.T, f *fabric.Fabric) { restart(t, f, 3, 3); post(t, f, 3, add(0, 40, 1), add(1, 40, 1)) },
		"Take":                func(t *testing.T, f *fabric.Fabric) { takes(t, f, 1, ok(19, 20), ok()) },
		"Take and Rename":     func(t *testing.T, f *fabric.Fabric) { takes(t, f, 1, ok(19, 20), ok()); f.Rename(1, 3) },
		"Take and Post":       func(t *testing.T, f *fabric.Fabric) { takes(t, f, 1, ok(19, 20), ok()); post(t, f, 1, add(0, 40, 1)) },
		"a node's failure":    func(t *testing.T, f *fabric.Fabric) { f.Node(0).Fail() },
		"a node's return":     func(t *testing.T, f *fabric.Fabric) { f.Node(2).Back() },
		"a write to a node":   func(t *testing.T, f *fabric.Fabric) { f.Node(1).Write(50, []uint64{1}) },
		"all steps there are": finish,
	}
}

// Promise 6.5: a copy is in the same state: it answers and goes on as the original does.
func TestCopy(t *testing.T) {
	f := mixed(t)
	g := f.Copy()
	if g == f || g.Nodes() != 3 || g.Clients() != 4 || g.Lines() != lines || !bytes.Equal(all(g), all(f)) {
		t.Errorf("a copy of %d, %d, %d in another state", g.Nodes(), g.Clients(), g.Lines())
	}
	for client, want := range []int{2, 0, 0, 0} {
		waits(t, g, client, want)
	}
	for node := range 3 {
		if g.Node(node) == f.Node(node) || g.Node(node) != g.Node(node) || !bytes.Equal(g.Node(node).Image(), f.Node(node).Image()) {
			t.Errorf("memory node %d of the copy", node)
		}
	}
	chooses(t, g, live(0, 0), orphanOf(0, 2, 0), orphanOf(1, 2, 1), orphanOf(2, 2, 2))
	for what, act := range acts() {
		f, g := f.Copy(), g.Copy()
		act(t, f)
		act(t, g)
		if !bytes.Equal(all(f), all(g)) {
			t.Errorf("after %s the copy is in another state than the original", what)
		}
	}
	finish(t, g)
	takes(t, g, 0, ok(counted(28)[8:]...), ok(0), ok(counted(8)...))
	takes(t, g, 1, ok(19, 20), ok())
}

// Promise 6.5: what happens to the original does not happen to the copy, nor the other way round.
func TestCopiesGoOnApart(t *testing.T) {
	f := mixed(t)
	want := all(f)
	for first, one := range acts() {
		f := f.Copy()
		g := f.Copy()
		one(t, f)
		if bytes.Equal(all(f), want) || !bytes.Equal(all(g), want) {
			t.Errorf("%s has not changed the original, or has changed the copy", first)
		}
		after := all(f)
		for second, other := range acts() {
			h := g.Copy()
			other(t, g)
			if !bytes.Equal(all(f), after) {
				t.Errorf("%s of the copy has changed the original after %s", second, first)
			}
			if !bytes.Equal(all(h), want) {
				t.Errorf("%s has changed a copy of the copy", second)
			}
			g = h
		}
	}
}

// Promise 6.5, rule R2: the words that one of two copies returns are not those of the other one.
func TestCopiesShareNoCompletions(t *testing.T) {
	f := mixed(t)
	finish(t, f)
	g := f.Copy()
	for client, want := range [][]api.Done{{ok(counted(28)[8:]...), ok(0), ok(counted(8)...)}, {ok(19, 20), ok()}} {
		got, _ := f.Take(client)
		for _, d := range got {
			clear(append(d.Words, 1, 2, 3))
		}
		takes(t, g, client, want...)
	}
}

// Promise 6.5: copies that are made when the pairs have been in use post batches of their own.
func TestCopiesPostApart(t *testing.T) {
	f := usual(t)
	// Queues that have grown and shrunk have room for more.
	for range 3 {
		post(t, f, 0, slices.Repeat([]api.Verb{add(0, 40, 1), add(1, 40, 1)}, 5)...)
		finish(t, f)
		f.Take(0)
	}
	post(t, f, 0, add(0, 41, 1))
	g := f.Copy()
	finish(t, f)
	finish(t, g)
	takes(t, f, 0, ok(0))
	takes(t, g, 0, ok(0))
	h := g.Copy()
	post(t, f, 0, add(0, 42, 1), add(1, 42, 1), add(0, 42, 1), reads(2, 42, 1))
	post(t, g, 0, reads(2, 43, 1), add(1, 43, 1), reads(2, 43, 1), add(0, 43, 1))
	post(t, h, 0, add(1, 44, 1), reads(2, 44, 1), add(0, 44, 1), add(0, 44, 1))
	for _, c := range []fabric.Choice{live(0, 0), live(0, 1), live(0, 2)} {
		steps(t, f, c)
		steps(t, g, c)
		steps(t, h, c)
	}
	steps(t, f, live(0, 0))
	steps(t, g, live(0, 2))
	steps(t, h, live(0, 0))
	takes(t, f, 0, ok(0), ok(0), ok(1), ok(0))
	takes(t, g, 0, ok(0), ok(0), ok(0), ok(0))
	takes(t, h, 0, ok(0), ok(0), ok(0), ok(1))
	for i, x := range []*fabric.Fabric{f, g, h} {
		want := [][]uint64{{15, 1, 2, 0, 0}, {15, 1, 0, 1, 0}, {15, 1, 0, 0, 2}}[i]
		holds(t, x, 0, want...)
	}
}

// Promise 6.5: copies of a fabric with orphans lose and end them apart.
func TestCopiesOfOrphans(t *testing.T) {
	f := orphaned(t)
	want := f.Choices()
	g, h := f.Copy(), f.Copy()
	f.DropOrphan(0)
	f.DropOrphan(3)
	steps(t, g, orphan(1), orphan(1))
	chooses(t, h, want...)
	die(t, f, 0)
	die(t, g, 1)
	chooses(t, h, want...)
	chooses(t, f, live(1, 0), live(1, 2), orphanOf(0, 2, 2), orphanOf(1, 1, 0), orphanOf(2, 1, 1), orphanOf(3, 0, 1), orphanOf(4, 0, 2))
	chooses(t, g, live(0, 1), live(0, 2), orphanOf(0, 2, 0), orphanOf(1, 1, 0), orphanOf(2, 1, 1), orphanOf(3, 1, 2), orphanOf(4, 1, 0), orphanOf(5, 1, 2))
}
