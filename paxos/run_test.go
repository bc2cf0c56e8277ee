package paxos_test

import (
	"testing"

	"bodega/api"
	"bodega/fabric"
	"bodega/layout"
	"bodega/paxos"
)

// store returns the fabric of a formatted store.
func store(t *testing.T, nodes int) *fabric.Fabric {
	t.Helper()
	f, code := fabric.New(nodes, 6, 98)
	if code == api.OK {
		code = layout.FormatAll(f)
	}
	if code != api.OK {
		t.Fatalf("the store of %d nodes: %v", nodes, code)
	}
	return f
}

// run runs a proposal to its end, the nodes that are chosen last first; before each batch something may happen.
func run(t *testing.T, f *fabric.Fabric, j paxos.Job, before func(batch int)) (paxos.Outcome, int) {
	t.Helper()
	var got [][]api.Done
	for {
		ask, out, over := paxos.Next(j, got)
		if over {
			return out, len(got)
		}
		if code := f.Post(j.Client, ask); code != api.OK {
			t.Fatalf("Post of %+v: %v", ask, code)
		}
		before(len(got) + 1)
		for {
			c := f.Choices()
			if len(c) == 0 {
				break
			}
			f.Step(c[len(c)-1])
		}
		done, ok := f.Take(j.Client)
		if !ok || len(got) > 3 {
			t.Fatalf("batch %d of %+v does not complete", len(got)+1, j)
		}
		got = append(got, done)
	}
}

// quiet lets nothing happen.
func quiet(int) {}

// wordsOf returns all words of a node.
func wordsOf(t *testing.T, f *fabric.Fabric, node int) []uint64 {
	t.Helper()
	words, code := f.Node(node).Read(0, 98*8)
	if code != api.OK {
		t.Fatalf("Read of node %d: %v", node, code)
	}
	return words
}

// Promise 9.2 and the example: on a store of any number of nodes a proposal changes one word of each node, the one of
// its number, in three batches. Views are decided apart from one another.
func TestRun(t *testing.T) {
	for nodes := 1; nodes <= 5; nodes++ {
		f := store(t, nodes)
		want := wordsOf(t, f, 0)
		want[8] = 0
		for number := 1; number < 16; number++ {
			client := number % 6
			j := paxos.Job{Nodes: nodes, Number: number, Client: client, Round: number, Value: uint64(1000 + number)}
			if out, batches := run(t, f, j, quiet); out != decided(uint64(1000+number)) || batches != 3 {
				t.Errorf("%+v ends with %+v after %d batches", j, out, batches)
			}
			b := uint64(8*number + client + 1)
			want[8+number] = con(b, b, uint64(1000+number))
		}
		for node := range nodes {
			for at, w := range wordsOf(t, f, node) {
				if at != 8 && w != want[at] {
					t.Errorf("word %d of node %d is %#x; want %#x", at, node, w, want[at])
				}
			}
		}
	}
}

// Promise 9.3: a store is formatted with a decided view 0; no proposer decides another one.
func TestRunForViewZero(t *testing.T) {
	for nodes := 1; nodes <= 5; nodes++ {
		f := store(t, nodes)
		want, _ := layout.InitialValue(nodes)
		j := paxos.Job{Nodes: nodes, Number: 0, Client: 3, Round: 4, Value: 5}
		if out, _ := run(t, f, j, quiet); out != decided(want) {
			t.Errorf("%d nodes: view 0 becomes %+v", nodes, out)
		}
	}
}

// Promise 9.2: nodes that are down from some batch on do not matter while a majority is up, and end the proposal in that
// batch if it is not.
func TestRunWithNodesDown(t *testing.T) {
	for nodes := 1; nodes <= 5; nodes++ {
		for down := 0; down <= nodes; down++ {
			for batch := 1; batch <= 3; batch++ {
				f := store(t, nodes)
				out, batches := run(t, f, job(nodes, 1, 2), func(n int) {
					for node := 0; n == batch && node < down; node++ {
						f.Node(node).Fail()
					}
				})
				want, last := decided(5), 3
				if nodes-down < nodes/2+1 {
					want, last = failed(api.ErrMajority), batch
				}
				if out != want || batches != last {
					t.Errorf("%d of %d nodes down from batch %d on: %+v after %d batches", down, nodes, batch, out, batches)
				}
			}
		}
	}
}

// Promise 9.2: a node that returns between two batches goes on with its word, for the verbs present no boot number.
func TestRunWithANodeThatReturns(t *testing.T) {
	for batch := 1; batch <= 3; batch++ {
		f := store(t, 1)
		out, _ := run(t, f, job(1, 1, 2), func(n int) {
			if n == batch {
				f.Node(0).Fail()
				f.Node(0).Back()
			}
		})
		if out != decided(5) {
			t.Errorf("the node returns in batch %d: %+v", batch, out)
		}
	}
}

// Promise 9.2: a compute node that was fenced can still read, and does not change a word.
func TestRunOfAFencedClient(t *testing.T) {
	f := store(t, 3)
	for node := range 3 {
		f.Node(node).Write(layout.Door(2), []uint64{3})
	}
	if out, batches := run(t, f, job(3, 1, 2), quiet); out != failed(api.ErrMajority) || batches != 2 {
		t.Errorf("a fenced compute node: %+v after %d batches", out, batches)
	}
	for node := range 3 {
		if w := wordsOf(t, f, node)[9]; w != 0 {
			t.Errorf("the word of node %d is %#x", node, w)
		}
	}
}
