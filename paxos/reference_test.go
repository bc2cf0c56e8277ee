package paxos_test

import (
	"math/rand"
	"testing"

	"bodega/api"
	"bodega/paxos"
)

// script is what each node answers in each of the three steps, if it is asked. A negative number is no answer; the
// number 0 of a later step is the word expected.
type script [3][5]int64

// done returns a node's completion in a step in which the word is expected there.
func (s script) done(step, node int, expected uint64) api.Done {
	switch x := s[step][node]; {
	case x == -1:
		return gone()
	case x < 0:
		return refused()
	case x == 0:
		return word(expected)
	default:
		return word(uint64(x))
	}
}

// wanted plays a proposal as the chapter tells it, node by node: the batches, the replies and the outcome.
func wanted(j paxos.Job, s script) (ask [][]api.Verb, got [][]api.Done, out paxos.Outcome) {
	b, need, at := ballotOf(j), j.Nodes/2+1, 8+j.Number
	var expected [5]uint64
	var in [5]bool // the nodes that are asked
	round, value := uint64(0), j.Value
	for i := range j.Nodes {
		in[i] = true
	}
	for step := range 3 {
		var verbs []api.Verb
		var dones []api.Done
		answers, won := 0, 0
		before := expected
		greatest := uint64(0)
		next := j.Value
		for i := range j.Nodes {
			if !in[i] {
				continue
			}
			promised := b<<52 | before[i]&(1<<52-1)
			verbs = append(verbs, [...]api.Verb{read(i, at), cas(i, at, before[i], promised), cas(i, at, before[i], con(b, b, value))}[step])
			d := s.done(step, i, before[i])
			dones = append(dones, d)
			in[i] = false
			if d.Code != api.OK {
				continue
			}
			answers++
			w := d.Words[0]
			if step == 0 || w != before[i] {
				round = max(round, w>>52/8)
			}
			switch {
			case step == 0 && w>>52 < b:
				in[i], expected[i] = true, w
			case step == 1 && w == before[i]:
				in[i], expected[i] = true, promised
				if accepted := w >> 40 & 4095; accepted > greatest {
					greatest, next = accepted, w&most
				}
			case step == 2 && w == before[i]:
				in[i] = true
			}
			if in[i] {
				won++
			}
		}
		ask, got = append(ask, verbs), append(got, dones)
		if answers < need {
			return ask, got, failed(api.ErrMajority)
		}
		if won < need {
			return ask, got, lost(int(round))
		}
		if step == 1 {
			value = next
		}
	}
	return ask, got, decided(value)
}

// Promise 9.2: proposals to any number of nodes, whose answers are drawn, against a model that tells the chapter node
// by node. Each end occurs in each step.
func TestDrawnAnswers(t *testing.T) {
	r := rand.New(rand.NewSource(99))
	seen := map[paxos.Outcome]int{}
	for range 60000 {
		j := paxos.Job{Nodes: 1 + r.Intn(5), Number: r.Intn(16), Client: r.Intn(6), Round: 1 + r.Intn(4), Value: 5}
		s := drawn(r, j)
		ask, got, out := wanted(j, s)
		for i := range ask {
			asks(t, j, got[:i], ask[i]...)
		}
		ends(t, j, got, out)
		seen[paxos.Outcome{Code: out.Code, Round: len(got)}]++
	}
	for steps := 1; steps <= 3; steps++ {
		for _, code := range []api.Errno{api.ErrMajority, api.ErrLost, api.OK} {
			if n := seen[paxos.Outcome{Code: code, Round: steps}]; n < 1000 && (code != api.OK || steps == 3) {
				t.Errorf("%v after %d batches: only %d times", code, steps, n)
			}
		}
	}
}

// drawn returns a script in which most nodes agree with the proposer.
func drawn(r *rand.Rand, j paxos.Job) script {
	b := int64(ballotOf(j))
	var s script
	for step := range 3 {
		for node := range 5 {
			switch x := r.Intn(20); {
			case x < 2:
				s[step][node] = -1 - int64(x)
			case x < 5:
				s[step][node] = (b+r.Int63n(20))<<52 | r.Int63n(1<<52)
			case x < 12 && step == 0:
				s[step][node] = r.Int63n(b)<<52 | r.Int63n(4)*r.Int63n(b)<<40 | r.Int63n(4)
			case x < 6:
				s[step][node] = r.Int63n(b+1)<<52 | r.Int63n(3)<<40 | r.Int63n(9)
			}
		}
	}
	return s
}
