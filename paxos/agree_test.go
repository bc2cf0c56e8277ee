package paxos_test

import (
	"fmt"
	"testing"

	"bodega/api"
	"bodega/paxos"
)

// actor is a proposer and its current batch: which of its verbs are executed, and with which completion.
type actor struct {
	job  paxos.Job
	got  [][]api.Done
	ask  []api.Verb
	done []*api.Done
	out  paxos.Outcome
	over bool
}

// world is a store with one consensus word on each node, and proposers of which any may never go on.
type world struct {
	words  []uint64
	actors []actor
	losses int // how many more verbs may be lost
}

// newWorld returns a world in which each proposer is about to post its first batch.
func newWorld(nodes, losses int, jobs ...paxos.Job) world {
	w := world{words: make([]uint64, nodes), losses: losses}
	for _, j := range jobs {
		w.actors = append(w.actors, begun(actor{job: j}))
	}
	return w
}

// begun returns a proposer with the next batch that it asks for, or its outcome.
func begun(a actor) actor {
	a.ask, a.out, a.over = paxos.Next(a.job, a.got)
	a.done = make([]*api.Done, len(a.ask))
	return a
}

// after returns the world after a proposer's verb has been executed, or was lost.
func (w world) after(client, verb int, lose bool) world {
	n := world{append([]uint64{}, w.words...), append([]actor{}, w.actors...), w.losses}
	a := &n.actors[client]
	v, d := a.ask[verb], &api.Done{Code: api.ErrGone}
	if lose {
		n.losses--
	} else {
		d = &api.Done{Words: []uint64{n.words[v.Node]}}
		if v.Kind == api.Cas && n.words[v.Node] == v.Old {
			n.words[v.Node] = v.New
		}
	}
	a.done = append([]*api.Done{}, a.done...)
	a.done[verb] = d
	batch := []api.Done{}
	for _, d := range a.done {
		if d == nil {
			return n
		}
		batch = append(batch, *d)
	}
	*a = begun(actor{job: a.job, got: append(append([][]api.Done{}, a.got...), batch)})
	return n
}

// name returns a text that is equal for equal worlds.
func (w world) name() string {
	text := fmt.Sprintln(w.words, w.losses)
	for _, a := range w.actors {
		text += fmt.Sprintln(a.got)
		for _, d := range a.done {
			if d == nil {
				text += "-"
			} else {
				text += fmt.Sprint(*d)
			}
		}
	}
	return text
}

// explore visits every world that can be reached.
func explore(w world, seen map[string]bool, visit func(w world)) {
	name := w.name()
	if seen[name] {
		return
	}
	seen[name] = true
	visit(w)
	for client, a := range w.actors {
		for verb, d := range a.done {
			if d != nil {
				continue
			}
			explore(w.after(client, verb, false), seen, visit)
			if w.losses > 0 {
				explore(w.after(client, verb, true), seen, visit)
			}
		}
	}
}

// alone runs a proposal on the words of a world to its end.
func (w world) alone(j paxos.Job) paxos.Outcome {
	n := newWorld(len(w.words), 0, j)
	copy(n.words, w.words)
	for !n.actors[0].over {
		for verb := range n.actors[0].ask {
			n = n.after(0, verb, false)
		}
	}
	return n.actors[0].out
}

// agreed fails the test unless all that is decided in a world is one value that somebody has proposed, and a proposer of
// a later round who goes on alone decides it too.
func agreed(t *testing.T, w world) {
	t.Helper()
	values := map[uint64]bool{}
	proposed := map[uint64]bool{99: true}
	for _, a := range w.actors {
		proposed[a.job.Value] = true
		if a.over && a.out.Code == api.OK {
			values[a.out.Value] = true
		}
	}
	later := w.alone(paxos.Job{Nodes: len(w.words), Number: 1, Client: 5, Round: 9, Value: 99})
	if later.Code != api.OK {
		t.Errorf("a later proposer ends with %+v after %s", later, w.name())
	}
	values[later.Value] = true
	for v := range values {
		if len(values) > 1 || !proposed[v] {
			t.Errorf("decided is %v after %s", values, w.name())
		}
	}
}

// Promise 9.3: at most one value is decided, in all interleavings of proposers that may stop at any time, while verbs
// may find their node down. Whoever comes later decides the same value.
func TestAgreement(t *testing.T) {
	for _, x := range []struct {
		nodes, losses, proposers int
		worlds                   int // at least so many can be reached
	}{
		{1, 1, 2, 50}, {1, 1, 3, 500}, {2, 1, 2, 500}, {2, 0, 3, 10000}, {3, 0, 2, 1000}, {3, 1, 2, 10000},
	} {
		jobs := []paxos.Job{
			{Nodes: x.nodes, Number: 1, Client: 0, Round: 1, Value: 11},
			{Nodes: x.nodes, Number: 1, Client: 1, Round: 1, Value: 12},
			{Nodes: x.nodes, Number: 1, Client: 0, Round: 2, Value: 13}, // the first one again
		}
		seen, ends := map[string]bool{}, map[string]bool{}
		explore(newWorld(x.nodes, x.losses, jobs[:x.proposers]...), seen, func(w world) {
			agreed(t, w)
			for _, a := range w.actors {
				if a.over {
					ends[fmt.Sprint(a.job.Value, " ", int(a.out.Code), " ", a.out.Value)] = true
				}
			}
		})
		for _, end := range []string{"11 0 11", "12 0 12", "12 0 11", "11 8 0", "12 8 0"} {
			if !ends[end] || len(seen) < x.worlds {
				t.Errorf("%+v: %d worlds with the ends %v; %q is missing or they are too few", x, len(seen), ends, end)
			}
		}
	}
}

// Promises 9.2 and 9.3: a proposer that has lost wins with the round behind the one that it was told, if it goes on alone.
func TestLosersCatchUp(t *testing.T) {
	for _, promise := range []uint64{9, 10, 14, 16, 17, 100, 3990, 3998} {
		w := newWorld(3, 0)
		w.words = []uint64{con(promise, 0, 0), con(promise, 7, 31), con(1, 0, 0)}
		j := job(3, 1, 0)
		if promise/8 > 300 {
			j.Round = 400
		}
		out := w.alone(j)
		if out != lost(int(promise/8)) {
			t.Fatalf("a proposer ends with %+v where %d was promised", out, promise)
		}
		j.Round = out.Round + 1
		if out = w.alone(j); out != decided(31) {
			t.Errorf("a proposer of round %d ends with %+v where %d was promised", j.Round, out, promise)
		}
	}
}
