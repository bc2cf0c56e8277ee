package paxos_test

import (
	"testing"

	"bodega/api"
	"bodega/paxos"
)

// replies returns replies of several kinds: none, those that fit a proposal to three nodes, and others.
func replies() [][][]api.Done {
	zeros := []api.Done{word(0), word(0), word(0)}
	nobody := []api.Done{gone(), gone(), gone()}
	return [][][]api.Done{
		nil, {}, {nil}, {{}}, {zeros}, {zeros, zeros}, {nobody}, {nobody, nobody}, {zeros, zeros, zeros, zeros, zeros},
		{{{Code: api.ErrBusy}}}, {{{Code: -1, Words: []uint64{1, 2}}}},
	}
}

// isValid fails the test unless Valid returns the code, and Next of an invalid job is over with it at once.
func isValid(t *testing.T, j paxos.Job, want api.Errno) {
	t.Helper()
	if got := paxos.Valid(j); got != want {
		t.Errorf("Valid(%+v) = %v; want %v", j, got, want)
	}
	if want == api.OK {
		if _, _, over := next(t, j, nil); over {
			t.Errorf("Next of %+v is over at once", j)
		}
		return
	}
	for _, got := range replies() {
		ends(t, j, got, failed(want))
	}
}

// Promise 9.1: every number of nodes near the limits, and far from them.
func TestValidOfNodes(t *testing.T) {
	for _, nodes := range append(far(), 0, 1, 2, 3, 4, 5, 6, 7, 8, 100) {
		want := api.OK
		if nodes < 1 || nodes > 5 {
			want = api.ErrArg
		}
		isValid(t, job(nodes, 1, 0), want)
	}
}

// Promise 9.1: every number of a view, and others.
func TestValidOfNumbers(t *testing.T) {
	tried := far()
	for number := range 40 {
		tried = append(tried, number)
	}
	for _, number := range tried {
		want := api.OK
		if number < 0 || number > 15 {
			want = api.ErrRange
		}
		j := job(3, 1, 0)
		j.Number = number
		isValid(t, j, want)
	}
}

// Promise 9.1: every round and client of a ballot, and others; the round is checked first.
func TestValidOfBallots(t *testing.T) {
	for _, round := range append(far(), 0, 1, 2, 250, 499, 500, 501, 502, 511, 512, 4096) {
		for _, client := range append(far(), 0, 1, 2, 3, 4, 5, 6, 7, 8, 100) {
			want := api.OK
			switch {
			case round < 1 || round > 500:
				want = api.ErrRange
			case client < 0 || client > 5:
				want = api.ErrArg
			}
			isValid(t, job(3, round, client), want)
		}
	}
}

// Promise 9.1: the value is not 0 and has at most 40 bits.
func TestValidOfValues(t *testing.T) {
	for _, value := range []uint64{0, 1, 2, 1 << 32, most / 3, most - 1, most, most + 1, most + 2, 1 << 41, 1<<41 + 5, 1 << 52, 1 << 63, top - 1, top} {
		want := api.OK
		if value == 0 || value > 1<<40-1 {
			want = api.ErrRange
		}
		j := job(3, 1, 0)
		j.Value = value
		isValid(t, j, want)
	}
}

// Promise 9.1: of several errors the first one of the list is returned, for all combinations of faults.
func TestValidOrder(t *testing.T) {
	nodes := []int{3, 0, 6, minInt, maxInt}
	numbers := []int{1, -1, 16, minInt, maxInt}
	rounds := []int{1, 0, 501, minInt, maxInt}
	clients := []int{0, -1, 6, minInt, maxInt}
	values := []uint64{5, 0, 1 << 40, top}
	for a, n := range nodes {
		for b, number := range numbers {
			for c, round := range rounds {
				for d, client := range clients {
					for e, value := range values {
						want := api.OK
						switch {
						case a > 0:
							want = api.ErrArg
						case b > 0 || c > 0:
							want = api.ErrRange
						case d > 0:
							want = api.ErrArg
						case e > 0:
							want = api.ErrRange
						}
						j := paxos.Job{Nodes: n, Number: number, Client: client, Round: round, Value: value}
						if got := paxos.Valid(j); got != want {
							t.Errorf("Valid(%+v) = %v; want %v", j, got, want)
						}
						if _, out, over := paxos.Next(j, nil); over != (want != api.OK) || out != failed(want) {
							t.Errorf("Next of %+v: %+v, %v", j, out, over)
						}
					}
				}
			}
		}
	}
}
