package fabric_test

import (
	"bytes"
	"testing"

	"bodega/api"
	"bodega/fabric"
)

// Promise 6.4: the pairs with pending verbs become orphans in the order of the memory nodes, behind the others; the
// other pairs are gone.
func TestDie(t *testing.T) {
	f := made(t, 5, 3, lines)
	post(t, f, 0, add(4, 40, 1), add(2, 40, 1), add(1, 40, 1), add(0, 40, 1), add(1, 40, 1))
	post(t, f, 1, add(3, 40, 1))
	post(t, f, 2, add(1, 40, 1), add(0, 40, 1))
	steps(t, f, live(0, 2), live(0, 1))
	die(t, f, 2)
	if f.Alive(2) || f.Inc(2) != 1 || !f.Alive(0) || !f.Alive(1) {
		t.Errorf("alive %v, %v, %v; incarnation %d", f.Alive(0), f.Alive(1), f.Alive(2), f.Inc(2))
	}
	chooses(t, f, live(0, 0), live(0, 1), live(0, 4), live(1, 3), orphanOf(0, 2, 0), orphanOf(1, 2, 1))
	die(t, f, 0)
	chooses(t, f, live(1, 3), orphanOf(0, 2, 0), orphanOf(1, 2, 1), orphanOf(2, 0, 0), orphanOf(3, 0, 1), orphanOf(4, 0, 4))
	for _, client := range []int{0, 2} {
		unchanged(t, f, "a second death", func() {
			if f.Die(client) {
				t.Errorf("compute node %d dies again", client)
			}
		})
		for node := range 5 {
			if f.Step(live(client, node)) {
				t.Errorf("compute node %d is dead and has a live pair to memory node %d", client, node)
			}
		}
	}
	steps(t, f, live(1, 3))
	takes(t, f, 1, ok(0))
}

// Promise 6.4: an orphan goes on where its verb was.
func TestDieWithinAVerb(t *testing.T) {
	f := usual(t)
	post(t, f, 1, writes(2, 44, counted(16)...), add(2, 44, 100))
	steps(t, f, live(1, 2))
	die(t, f, 1)
	f.Node(2).Write(44, []uint64{90})
	steps(t, f, orphan(0))
	holds(t, f, 2, 0, 0, 0, 0, 90, 2, 3, 4, 5, 6, 7, 8, 9, 10, 11, 12, 0, 0, 0, 0)
	chooses(t, f, orphanOf(0, 1, 2))
	steps(t, f, orphan(0), orphan(0))
	holds(t, f, 2, 0, 0, 0, 0, 190, 2, 3, 4, 5, 6, 7, 8, 9, 10, 11, 12, 13, 14, 15, 16)
	chooses(t, f)
}

// Promise 6.4: a death ends the batch, whether it was complete or not, or leaves none if there was none.
func TestDieEndsTheBatch(t *testing.T) {
	for executed := range 3 {
		f := usual(t)
		post(t, f, 0, add(1, 40, 1), add(2, 40, 1))
		steps(t, f, []fabric.Choice{live(0, 1), live(0, 2)}[:executed]...)
		die(t, f, 0)
		if got := len(f.Choices()); got != 2-executed {
			t.Errorf("%d orphans after %d pieces", got, executed)
		}
		restart(t, f, 0, 1)
		takesNothing(t, f, 0)
		post(t, f, 0, reads(0, 40, 1))
		waits(t, f, 0, 1)
		steps(t, f, live(0, 0))
		takes(t, f, 0, ok(0))
	}
	f := usual(t)
	die(t, f, 1)
	chooses(t, f)
}

// Promise 6.4: the order of Restart's errors, and all incarnations at, within and beyond the limits.
func TestRestartErrors(t *testing.T) {
	for _, inc := range append(edges(), 58, 59, 60, 61) {
		f := usual(t)
		post(t, f, 1, add(0, 40, 1))
		die(t, f, 1)
		for _, client := range []int{-1, 3, 0, 2} {
			unchanged(t, f, "a Restart with an error", func() {
				if code := f.Restart(client, inc); code != api.ErrArg {
					t.Errorf("Restart(%d, %d) = %v", client, inc, code)
				}
			})
		}
		if inc < 0 || inc > 59 {
			unchanged(t, f, "a Restart with an error", func() {
				if code := f.Restart(1, inc); code != api.ErrRange {
					t.Errorf("Restart(1, %d) = %v", inc, code)
				}
			})
			continue
		}
		restart(t, f, 1, inc)
		if !f.Alive(1) || f.Inc(1) != inc || f.Inc(0) != 1 || f.Inc(2) != 1 {
			t.Errorf("after Restart(1, %d): %v, incarnation %d", inc, f.Alive(1), f.Inc(1))
		}
		if code := f.Restart(1, inc); code != api.ErrArg {
			t.Errorf("a second Restart: %v", code)
		}
	}
}

// Promise 6.4: a compute node that restarts has empty pairs of the new incarnation to all memory nodes, while its
// orphans still wait.
func TestRestart(t *testing.T) {
	f := usual(t)
	post(t, f, 0, writes(0, 47, 1, 2), add(2, 40, 1))
	steps(t, f, live(0, 0))
	die(t, f, 0)
	restart(t, f, 0, 5)
	chooses(t, f, orphanOf(0, 0, 0), orphanOf(1, 0, 2))
	for node := range 3 {
		f.Node(node).Write(api.LineDoors*api.LineWords, []uint64{5, 99, 99})
		if f.Step(live(0, node)) {
			t.Errorf("the new pair to memory node %d is not empty", node)
		}
	}
	post(t, f, 0, add(0, 40, 1), add(1, 40, 1), add(2, 40, 1))
	chooses(t, f, live(0, 0), live(0, 1), live(0, 2), orphanOf(0, 0, 0), orphanOf(1, 0, 2))
	finish(t, f)
	takes(t, f, 0, ok(0), ok(0), ok(0))
	// The doors were closed to the orphans.
	holds(t, f, 0, 1, 0, 0, 0, 0, 0, 0, 1, 0)
	holds(t, f, 2, 1)
}

// Promise 6.4: several lives of one compute node leave their orphans one behind the other.
func TestOrphansOfSeveralLives(t *testing.T) {
	f := made(t, 2, 1, lines)
	for life := range 3 {
		post(t, f, 0, add(1, 40+life, 1), add(life%2, 40+life, 1), add(1, 40+life, 1))
		die(t, f, 0)
		restart(t, f, 0, 2*life+3)
	}
	chooses(t, f, orphanOf(0, 0, 0), orphanOf(1, 0, 1), orphanOf(2, 0, 1), orphanOf(3, 0, 0), orphanOf(4, 0, 1))
	steps(t, f, orphan(2))
	holds(t, f, 1, 0, 1, 0)
	steps(t, f, orphan(4))
	holds(t, f, 1, 0, 1, 1)
	steps(t, f, orphan(0))
	holds(t, f, 0, 1, 0, 0)
	chooses(t, f, orphanOf(0, 0, 1), orphanOf(1, 0, 1), orphanOf(2, 0, 0), orphanOf(3, 0, 1))
}

// Promise 6.4: the order of Rename's errors: a batch stands in the way until it is taken.
func TestRenameErrors(t *testing.T) {
	f := usual(t)
	refuses := func(client, inc int, want api.Errno) {
		t.Helper()
		unchanged(t, f, "a Rename with an error", func() {
			if code := f.Rename(client, inc); code != want {
				t.Errorf("Rename(%d, %d) = %v; want %v", client, inc, code, want)
			}
		})
	}
	post(t, f, 0, writes(0, 47, 1, 2), add(1, 40, 1))
	post(t, f, 1, add(1, 40, 1))
	die(t, f, 1)
	for _, c := range []fabric.Choice{live(0, 0), live(0, 1), live(0, 0)} {
		for _, inc := range []int{minInt, -1, 0, 1, 3, 59, 60, maxInt} {
			refuses(-1, inc, api.ErrArg)
			refuses(3, inc, api.ErrArg)
			refuses(1, inc, api.ErrArg)
			refuses(0, inc, api.ErrBusy)
		}
		steps(t, f, c)
	}
	refuses(0, 3, api.ErrBusy)
	refuses(0, 60, api.ErrBusy)
	takes(t, f, 0, ok(), ok(0))
	for _, inc := range []int{minInt, -1 << 32, -1, 60, 61, 255, 1<<32 + 1, maxInt} {
		refuses(0, inc, api.ErrRange)
	}
	for inc := range 60 {
		if code := f.Rename(0, inc); code != api.OK || f.Inc(0) != inc || !f.Alive(0) || f.Inc(2) != 1 || f.Alive(1) {
			t.Errorf("Rename(0, %d): %v; incarnation %d", inc, code, f.Inc(0))
		}
	}
}

// Promise 6.4: after Rename all pairs are of the new incarnation; orphans stay of the old one.
func TestRename(t *testing.T) {
	f := usual(t)
	post(t, f, 1, add(0, 40, 1), add(2, 40, 1))
	die(t, f, 1)
	restart(t, f, 1, 1)
	for _, inc := range []int{7, 5} {
		if code := f.Rename(1, inc); code != api.OK {
			t.Fatalf("Rename: %v", code)
		}
	}
	for node := range 3 {
		f.Node(node).Write(api.LineDoors*api.LineWords+1, []uint64{uint64(4 + node)})
	}
	chooses(t, f, orphanOf(0, 1, 0), orphanOf(1, 1, 2))
	post(t, f, 1, add(0, 41, 1), add(1, 41, 1), add(2, 41, 1))
	chooses(t, f, live(1, 0), live(1, 1), live(1, 2), orphanOf(0, 1, 0), orphanOf(1, 1, 2))
	finish(t, f)
	takes(t, f, 1, ok(0), ok(0), failed(api.ErrRefused))
	holds(t, f, 0, 0, 1)
	// Under its old name it is as a compute node that never had another.
	g := usual(t)
	g.Rename(2, 9)
	g.Rename(2, 1)
	if !bytes.Equal(g.Encode(), usual(t).Encode()) {
		t.Error("two names later: another state")
	}
}

// Promise 6.5: Trips and Posted count what was posted successfully, across deaths, restarts, names and copies.
func TestTripsAndPosted(t *testing.T) {
	f := usual(t)
	counts := func(g *fabric.Fabric, client, trips, posted int) {
		t.Helper()
		if g.Trips(client) != trips || g.Posted(client) != posted {
			t.Errorf("compute node %d: %d batches, %d verbs; want %d, %d", client, g.Trips(client), g.Posted(client), trips, posted)
		}
	}
	post(t, f, 0, add(0, 40, 1), writes(1, 40, counted(20)...), add(0, 40, 1))
	counts(f, 0, 1, 3)
	f.Post(0, []api.Verb{add(0, 40, 1)})
	f.Post(1, nil)
	f.Post(1, []api.Verb{add(0, 40, 1), {}})
	f.Post(1, make([]api.Verb, 2000))
	counts(f, 0, 1, 3)
	counts(f, 1, 0, 0)
	finish(t, f)
	counts(f, 0, 1, 3)
	f.Take(0)
	post(t, f, 0, add(2, 40, 1))
	post(t, f, 1, add(2, 40, 1), add(1, 40, 1))
	counts(f, 0, 2, 4)
	die(t, f, 0)
	counts(f, 0, 2, 4)
	f.Post(0, []api.Verb{add(0, 40, 1)})
	steps(t, f, orphan(0))
	restart(t, f, 0, 3)
	counts(f, 0, 2, 4)
	f.Rename(0, 5)
	counts(f, 0, 2, 4)
	g := f.Copy()
	post(t, f, 0, add(2, 40, 1), add(2, 40, 1))
	counts(f, 0, 3, 6)
	counts(g, 0, 2, 4)
	counts(g, 1, 1, 2)
	counts(f, 1, 1, 2)
	counts(f, 2, 0, 0)
}
