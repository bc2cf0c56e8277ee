package paxos_test

import (
	"go/build"
	"reflect"
	"slices"
	"testing"

	"bodega/api"
	"bodega/paxos"
)

const (
	top    = ^uint64(0)
	maxInt = int(^uint(0) >> 1)
	minInt = -maxInt - 1
	most   = uint64(1)<<40 - 1 // the greatest value
)

// job returns a valid job: number 1, value 5, the ballot 8*round + client + 1.
func job(nodes, round, client int) paxos.Job {
	return paxos.Job{Nodes: nodes, Number: 1, Client: client, Round: round, Value: 5}
}

// ballotOf returns the ballot of a job.
func ballotOf(j paxos.Job) uint64 {
	return uint64(8*j.Round + j.Client + 1)
}

// con returns a consensus word.
func con(promise, accepted, value uint64) uint64 {
	return promise<<52 | accepted<<40 | value
}

// read returns the verb that reads a word.
func read(node, at int) api.Verb {
	return api.Verb{Kind: 1, Node: node, At: at, N: 1}
}

// cas returns the verb that compares and swaps a word.
func cas(node, at int, old, new uint64) api.Verb {
	return api.Verb{Kind: 3, Node: node, At: at, Old: old, New: new}
}

// word returns the completion with a word.
func word(w uint64) api.Done {
	return api.Done{Words: []uint64{w}}
}

// gone and refused return the completions of a memory node that does not answer.
func gone() api.Done    { return api.Done{Code: api.ErrGone} }
func refused() api.Done { return api.Done{Code: api.ErrRefused} }

// copied returns the same replies in new memory.
func copied(got [][]api.Done) [][]api.Done {
	var all [][]api.Done
	for _, batch := range got {
		l := []api.Done{}
		for _, d := range batch {
			l = append(l, api.Done{Code: d.Code, Words: slices.Clone(d.Words)})
		}
		all = append(all, l)
	}
	return all
}

// next returns what Next returns, and fails the test if it changes the replies, or if it returns other results when
// it is called again after its results were overwritten.
func next(t *testing.T, j paxos.Job, got [][]api.Done) ([]api.Verb, paxos.Outcome, bool) {
	t.Helper()
	before := copied(got)
	first, out, over := paxos.Next(j, got)
	ask := slices.Clone(first)
	for i := range first {
		first[i] = api.Verb{Kind: 77}
	}
	again, outAgain, overAgain := paxos.Next(j, got)
	if !reflect.DeepEqual(again, ask) && len(again)+len(ask) > 0 || outAgain != out || overAgain != over {
		t.Errorf("Next of %+v after %v returns %v %v %v, and then %v %v %v", j, got, ask, out, over, again, outAgain, overAgain)
	}
	if !reflect.DeepEqual(copied(got), before) {
		t.Errorf("Next of %+v has changed the replies from %v to %v", j, before, got)
	}
	return ask, out, over
}

// asks fails the test unless the conversation goes on with the batch.
func asks(t *testing.T, j paxos.Job, got [][]api.Done, want ...api.Verb) {
	t.Helper()
	ask, out, over := next(t, j, got)
	if over || out != (paxos.Outcome{}) || !reflect.DeepEqual(ask, want) {
		t.Errorf("Next of %+v after %v: %+v, %+v, %v; want the batch %+v", j, got, ask, out, over, want)
	}
}

// ends fails the test unless the conversation is over with the outcome.
func ends(t *testing.T, j paxos.Job, got [][]api.Done, want paxos.Outcome) {
	t.Helper()
	ask, out, over := next(t, j, got)
	if !over || len(ask) != 0 || out != want {
		t.Errorf("Next of %+v after %v: %+v, %+v, %v; want the outcome %+v", j, got, ask, out, over, want)
	}
}

// lost returns the outcome of a proposal that has lost.
func lost(round int) paxos.Outcome {
	return paxos.Outcome{Code: api.ErrLost, Round: round}
}

// failed returns the outcome of a proposal that has ended with another error.
func failed(code api.Errno) paxos.Outcome {
	return paxos.Outcome{Code: code}
}

// decided returns the outcome of a proposal that has decided a value.
func decided(value uint64) paxos.Outcome {
	return paxos.Outcome{Value: value}
}

// far returns numbers that are out of every range. The lowest 32 bits of some of them are small numbers.
func far() []int {
	return []int{
		minInt, minInt + 1, minInt + 3, -1 << 62, -1 << 32, -1<<32 + 3, -1 << 31, -1 << 30, -256, -100, -8, -2, -1,
		1 << 31, 1 << 32, 1<<32 + 1, 1<<32 + 3, 1 << 61, 1 << 62, 1<<62 + 3, maxInt - 1, maxInt,
	}
}

// The example of chapter 9, by hand.
func TestExample(t *testing.T) {
	j := paxos.Job{Nodes: 3, Number: 1, Round: 1, Client: 0, Value: 5}
	var got [][]api.Done
	asks(t, j, got, read(0, 9), read(1, 9), read(2, 9))
	got = append(got, []api.Done{word(0), word(0), word(0)})
	asks(t, j, got, cas(0, 9, 0, con(9, 0, 0)), cas(1, 9, 0, con(9, 0, 0)), cas(2, 9, 0, con(9, 0, 0)))
	got = append(got, []api.Done{word(0), word(0), word(0)})
	asks(t, j, got, cas(0, 9, con(9, 0, 0), con(9, 9, 5)), cas(1, 9, con(9, 0, 0), con(9, 9, 5)), cas(2, 9, con(9, 0, 0), con(9, 9, 5)))
	got = append(got, []api.Done{word(con(9, 0, 0)), word(con(9, 0, 0)), word(con(9, 0, 0))})
	ends(t, j, got, decided(5))
}

// Promise 9.1: rounded down, 0 for no nodes, whatever the number is.
func TestMajority(t *testing.T) {
	for nodes, want := range map[int]int{
		minInt: 0, minInt + 1: 0, -1 << 32: 0, -3: 0, -2: 0, -1: 0, 0: 0, 1: 1, 2: 2, 3: 2, 4: 3, 5: 3, 6: 4, 7: 4, 100: 51, 101: 51,
		1<<32 + 1: 1<<31 + 1, maxInt - 1: 1 << 62, maxInt: 1 << 62,
	} {
		if got := paxos.Majority(nodes); got != want {
			t.Errorf("Majority(%d) = %d; want %d", nodes, got, want)
		}
	}
}

// Chapter 9: the package uses packages api, layout, verb and word.
func TestImports(t *testing.T) {
	folder, err := build.ImportDir(".", 0)
	if err != nil || len(folder.GoFiles) == 0 {
		t.Fatalf("the files %q: %v", folder.GoFiles, err)
	}
	for _, path := range folder.Imports {
		if !slices.Contains([]string{"bodega/api", "bodega/layout", "bodega/verb", "bodega/word"}, path) {
			t.Errorf("the files %q import %q", folder.GoFiles, path)
		}
	}
}
