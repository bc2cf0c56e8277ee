package paxos_test

import (
	"testing"

	"bodega/api"
	"bodega/paxos"
)

// all returns the same completion of so many nodes.
func all(nodes int, d api.Done) []api.Done {
	var l []api.Done
	for range nodes {
		l = append(l, d)
	}
	return l
}

// Promise 9.2: the batches of proposals for every number of nodes, every number of a view and every client, with small
// and great rounds and values: which verbs they have, and that Key and Boot are 0.
func TestBatches(t *testing.T) {
	for nodes := 1; nodes <= 5; nodes++ {
		for number := range 16 {
			for client := range 6 {
				for _, round := range []int{1, 2, 77, 500} {
					for _, value := range []uint64{1, most} {
						j := paxos.Job{Nodes: nodes, Number: number, Client: client, Round: round, Value: value}
						batches(t, j)
					}
				}
			}
		}
	}
}

// batches follows a proposal that nobody disturbs.
func batches(t *testing.T, j paxos.Job) {
	t.Helper()
	at, b := 8+j.Number, ballotOf(j)
	var reads, promises, accepts []api.Verb
	for node := range j.Nodes {
		reads = append(reads, read(node, at))
		promises = append(promises, cas(node, at, 0, con(b, 0, 0)))
		accepts = append(accepts, cas(node, at, con(b, 0, 0), con(b, b, j.Value)))
	}
	zeros := all(j.Nodes, word(0))
	asks(t, j, nil, reads...)
	asks(t, j, [][]api.Done{zeros}, promises...)
	asks(t, j, [][]api.Done{zeros, zeros}, accepts...)
	ends(t, j, [][]api.Done{zeros, zeros, all(j.Nodes, word(con(b, 0, 0)))}, decided(j.Value))
}

// Promise 9.2, step 1: a word with any accepted ballot and value is swapped for the same word with another promise.
func TestPromisesKeepTheRestOfTheWord(t *testing.T) {
	j := job(3, 2, 1) // ballot 18
	for _, w := range []uint64{0, con(0, 0, most), con(17, 0, 0), con(17, 17, 8), con(1, 4095, most), con(17, 18, 0), con(9, 9, 1<<39)} {
		promised := con(18, 0, 0) | w&(1<<52-1)
		asks(t, j, [][]api.Done{all(3, word(w))}, cas(0, 9, w, promised), cas(1, 9, w, promised), cas(2, 9, w, promised))
	}
}

// Promise 9.2, step 1: only a promise below the ballot makes a candidate, whatever else is in the word.
func TestCandidates(t *testing.T) {
	for _, j := range []paxos.Job{job(1, 1, 0), job(1, 1, 5), job(1, 2, 0), job(1, 77, 3), job(1, 500, 5)} {
		b := ballotOf(j)
		for _, promise := range []uint64{0, 1, 8, 9, 10, 14, 16, 17, b - 1, b, b + 1, 616, 620, 4000, 4006, 4007, 4095} {
			for _, low := range []uint64{0, con(0, 1, 1), con(0, 4095, most), con(0, 0, most)} {
				w := con(promise, 0, 0) | low
				got := [][]api.Done{{word(w)}}
				if promise < b {
					asks(t, j, got, cas(0, 9, w, con(b, 0, 0)|low))
				} else {
					ends(t, j, got, lost(int(promise)/8))
				}
			}
		}
	}
}

// Promise 9.2, step 1: nodes that do not answer, and nodes that are no candidates, are left out of the next batch.
func TestLeftOutOfStep2(t *testing.T) {
	j := job(5, 1, 0)
	got := [][]api.Done{{gone(), word(0), word(con(1, 0, 0)), refused(), word(con(2, 1, 7))}}
	asks(t, j, got, cas(1, 9, 0, con(9, 0, 0)), cas(2, 9, con(1, 0, 0), con(9, 0, 0)), cas(4, 9, con(2, 1, 7), con(9, 1, 7)))
	got = [][]api.Done{{word(con(9, 0, 0)), word(0), word(con(1, 0, 0)), word(top), word(0)}}
	asks(t, j, got, cas(1, 9, 0, con(9, 0, 0)), cas(2, 9, con(1, 0, 0), con(9, 0, 0)), cas(4, 9, 0, con(9, 0, 0)))
}

// Promise 9.2, step 1: fewer than a majority of all nodes answer: ErrMajority, also if those that do are no candidates.
func TestStep1WithoutAMajority(t *testing.T) {
	for nodes := 1; nodes <= 5; nodes++ {
		j := job(nodes, 1, 0)
		for answers := 0; answers <= nodes; answers++ {
			for candidates := 0; candidates <= answers; candidates++ {
				batch := append(all(candidates, word(0)), all(answers-candidates, word(con(9, 9, 5)))...)
				batch = append(batch, all(nodes-answers, gone())...)
				got := [][]api.Done{batch}
				switch need := nodes/2 + 1; {
				case answers < need:
					ends(t, j, got, failed(api.ErrMajority))
				case candidates < need:
					ends(t, j, got, lost(1))
				default:
					var promises []api.Verb
					for node := range candidates {
						promises = append(promises, cas(node, 9, 0, con(9, 0, 0)))
					}
					asks(t, j, got, promises...)
				}
			}
		}
	}
}

// Promise 9.2, step 1: Round is the greatest one of all words that were read, those of candidates included.
func TestRoundOfStep1(t *testing.T) {
	j := job(3, 2, 0) // ballot 17
	w := func(promise uint64) api.Done { return word(con(promise, 4095, most)) }
	for _, x := range []struct {
		batch []api.Done
		round int
	}{
		{[]api.Done{w(17), w(17), w(0)}, 2},
		{[]api.Done{w(23), w(24), w(0)}, 3},
		{[]api.Done{w(0), w(4095), w(24)}, 511},
		{[]api.Done{w(4006), w(4095), w(4000)}, 511},
		{[]api.Done{w(17), gone(), w(15)}, 2},
		{[]api.Done{refused(), w(20), w(16)}, 2},
		{[]api.Done{w(9), w(80), w(81)}, 10},
	} {
		ends(t, j, [][]api.Done{x.batch}, lost(x.round))
	}
}

// Promise 9.2, step 2: a candidate that answers with another word has not promised, even if its promise is below the
// ballot; a majority of promises is enough.
func TestPromised(t *testing.T) {
	j := job(3, 1, 0)
	zeros := []api.Done{word(0), word(0), word(0)}
	first, second := cas(0, 9, con(9, 0, 0), con(9, 9, 5)), cas(1, 9, con(9, 0, 0), con(9, 9, 5))
	third := cas(2, 9, con(9, 0, 0), con(9, 9, 5))
	for _, other := range []api.Done{gone(), refused(), word(1), word(con(1, 0, 0)), word(con(9, 0, 0)), word(con(9, 9, 5)), word(top)} {
		asks(t, j, [][]api.Done{zeros, {word(0), word(0), other}}, first, second)
		asks(t, j, [][]api.Done{zeros, {word(0), other, word(0)}}, first, third)
		asks(t, j, [][]api.Done{zeros, {other, word(0), word(0)}}, second, third)
	}
}

// Promise 9.2, step 2: what is expected of a candidate is the word that was read there.
func TestPromisedWithWordsOfTheirOwn(t *testing.T) {
	j := job(3, 2, 0) // ballot 17
	a, b, c := con(1, 0, 0), con(9, 2, 7), con(16, 1, 8)
	reads := []api.Done{word(a), word(b), word(c)}
	asks(t, j, [][]api.Done{reads, reads},
		cas(0, 9, con(17, 0, 0), con(17, 17, 7)), cas(1, 9, con(17, 2, 7), con(17, 17, 7)), cas(2, 9, con(17, 1, 8), con(17, 17, 7)))
	ends(t, j, [][]api.Done{reads, {word(b), word(c), word(a)}}, lost(2))
	ends(t, j, [][]api.Done{reads, {word(a), word(a), word(a)}}, lost(2))
	asks(t, j, [][]api.Done{reads, {word(a), word(a), word(c)}},
		cas(0, 9, con(17, 0, 0), con(17, 17, 8)), cas(2, 9, con(17, 1, 8), con(17, 17, 8)))
}

// Promise 9.2, steps 2 and 3: fewer than a majority of all nodes answer: ErrMajority, also if those that do have not
// promised or accepted.
func TestLaterStepsWithoutAMajority(t *testing.T) {
	for nodes := 1; nodes <= 5; nodes++ {
		j := job(nodes, 1, 0)
		zeros, promised := all(nodes, word(0)), word(con(9, 0, 0))
		for answers := 0; answers <= nodes; answers++ {
			for won := 0; won <= answers; won++ {
				tail := append(all(answers-won, word(con(33, 0, 0))), all(nodes-answers, refused())...)
				var want paxos.Outcome
				switch need := nodes/2 + 1; {
				case answers < need:
					want = failed(api.ErrMajority)
				case won < need:
					want = lost(4)
				default:
					want = decided(5)
				}
				ends(t, j, [][]api.Done{zeros, zeros, append(all(won, promised), tail...)}, want)
				got := [][]api.Done{zeros, append(all(won, word(0)), tail...)}
				if want != decided(5) {
					ends(t, j, got, want)
					continue
				}
				var accepts []api.Verb
				for node := range won {
					accepts = append(accepts, cas(node, 9, con(9, 0, 0), con(9, 9, 5)))
				}
				asks(t, j, got, accepts...)
			}
		}
	}
}

// Promise 9.2: a majority is one of all nodes, not of those that were asked in a step.
func TestMajorityOfAllNodes(t *testing.T) {
	j := job(5, 1, 0)
	reads := []api.Done{gone(), word(0), word(0), word(0), gone()}
	ends(t, j, [][]api.Done{reads, {word(0), word(0), gone()}}, failed(api.ErrMajority))
	ends(t, j, [][]api.Done{reads, {word(0), word(0), word(7)}}, lost(0))
	promises := []api.Done{word(0), word(0), word(0)}
	w := con(9, 0, 0)
	ends(t, j, [][]api.Done{reads, promises, {word(w), word(w), gone()}}, failed(api.ErrMajority))
	ends(t, j, [][]api.Done{reads, promises, {word(w), word(w), word(0)}}, lost(0))
	ends(t, j, [][]api.Done{reads, promises, {word(w), word(w), word(w)}}, decided(5))
}

// Promise 9.2, step 2: the value of the greatest accepted ballot is adopted, the first one's of several; only those
// that have promised count.
func TestAdoptedValue(t *testing.T) {
	j := job(5, 10, 0) // ballot 81
	for _, x := range []struct {
		accepted [5]uint64
		promised string
		want     uint64
	}{
		{[5]uint64{0, 0, 0, 0, 0}, "yyyyy", 5},
		{[5]uint64{9, 0, 0, 0, 0}, "yyyyy", 100},
		{[5]uint64{0, 0, 0, 0, 9}, "yyyyy", 104},
		{[5]uint64{0, 0, 0, 0, 9}, "yyyyn", 5},
		{[5]uint64{0, 0, 0, 0, 9}, "yyygy", 104},
		{[5]uint64{0, 0, 0, 0, 9}, "yyyyg", 5},
		{[5]uint64{1, 2, 3, 4, 5}, "yyyyy", 104},
		{[5]uint64{5, 4, 3, 2, 1}, "yyyyy", 100},
		{[5]uint64{5, 4, 3, 2, 1}, "nyyyy", 101},
		{[5]uint64{5, 4, 3, 2, 1}, "gnyyy", 102},
		{[5]uint64{2, 3, 3, 2, 3}, "yyyyy", 101},
		{[5]uint64{2, 3, 3, 2, 3}, "ynyyy", 102},
		{[5]uint64{2, 3, 3, 2, 3}, "yggyy", 104},
		{[5]uint64{8, 80, 4095, 80, 8}, "yyyyy", 102},
		{[5]uint64{8, 80, 4095, 80, 8}, "yynyy", 101},
		{[5]uint64{7, 7, 7, 7, 7}, "yyyyy", 100},
	} {
		adopts(t, j, x.accepted, x.promised, x.want)
	}
}

// adopts fails the test unless the third batch of a proposal proposes the value: node i has the accepted ballot and
// the value 100 + i, and promises (y), does not (n) or is gone (g).
func adopts(t *testing.T, j paxos.Job, accepted [5]uint64, promised string, want uint64) {
	t.Helper()
	b := ballotOf(j)
	var reads, promises, accepts []api.Done
	var asked []api.Verb
	for i, a := range accepted {
		w := con(3, a, 100+uint64(i))
		reads = append(reads, word(w))
		switch promised[i] {
		case 'n':
			promises = append(promises, word(w+1<<52))
			continue
		case 'g':
			promises = append(promises, gone())
			continue
		}
		promises = append(promises, word(w))
		asked = append(asked, cas(i, 9, con(b, a, 100+uint64(i)), con(b, b, want)))
		accepts = append(accepts, word(con(b, a, 100+uint64(i))))
	}
	asks(t, j, [][]api.Done{reads, promises}, asked...)
	ends(t, j, [][]api.Done{reads, promises, accepts}, decided(want))
}

// Promise 9.2, step 2: a value is adopted as it is, also 0 and the greatest one; without an accepted ballot it is not.
func TestAdoptedExtremes(t *testing.T) {
	j := job(1, 1, 0)
	for w, want := range map[uint64]uint64{
		con(0, 1, 0): 0, con(0, 1, most): most, con(8, 4095, 1<<39): 1 << 39, con(0, 0, 77): 5, con(8, 0, most): 5, con(0, 9, 6): 6,
	} {
		promised := con(9, 0, 0) | w&(1<<52-1)
		got := [][]api.Done{{word(w)}, {word(w)}}
		asks(t, j, got, cas(0, 9, promised, con(9, 9, want)))
		ends(t, j, append(got, []api.Done{word(promised)}), decided(want))
	}
}

// Promise 9.2, step 3: a majority is enough; a node that answers with another word has not accepted, whatever the word.
func TestAccepted(t *testing.T) {
	j := job(3, 1, 0)
	zeros, w := []api.Done{word(0), word(0), word(0)}, word(con(9, 0, 0))
	for _, other := range []api.Done{gone(), refused(), word(0), word(con(9, 9, 5)), word(con(9, 0, 1)), word(top)} {
		ends(t, j, [][]api.Done{zeros, zeros, {w, w, other}}, decided(5))
		ends(t, j, [][]api.Done{zeros, zeros, {w, other, w}}, decided(5))
		ends(t, j, [][]api.Done{zeros, zeros, {other, w, w}}, decided(5))
		if other.Code != api.OK {
			ends(t, j, [][]api.Done{zeros, zeros, {other, w, other}}, failed(api.ErrMajority))
			continue
		}
		ends(t, j, [][]api.Done{zeros, zeros, {other, w, other}}, lost(int(other.Words[0]>>52)/8))
		ends(t, j, [][]api.Done{zeros, zeros, {other, other, other}}, lost(int(other.Words[0]>>52)/8))
		ends(t, j, [][]api.Done{zeros, zeros, {other, w, gone()}}, lost(int(other.Words[0]>>52)/8))
	}
}

// Promise 9.2: Round is the greatest one of the words read and of those returned by a Cas that failed, in whichever step
// it was; what a Cas that succeeded returned does not count.
func TestRoundOfLaterSteps(t *testing.T) {
	j := job(3, 9, 0) // ballot 73
	w := func(promise uint64) api.Done { return word(con(promise, 0, 0)) }
	mine := w(73)
	for _, x := range []struct {
		reads, promises, accepts []api.Done
		round                    int
	}{
		{[]api.Done{w(9), w(20), w(0)}, []api.Done{w(9), w(21), w(1)}, nil, 2},
		{[]api.Done{w(9), w(20), w(0)}, []api.Done{w(10), w(80), w(0)}, nil, 10},
		{[]api.Done{w(0), w(0), w(0)}, []api.Done{w(1), w(2), w(3)}, nil, 0},
		{[]api.Done{w(64), w(0), w(0)}, []api.Done{gone(), w(2), w(3)}, nil, 8},
		{[]api.Done{w(4095), w(0), w(0)}, []api.Done{w(1), w(0)}, nil, 511},
		{[]api.Done{w(8), w(0), w(0)}, []api.Done{w(8), w(0), w(0)}, []api.Done{w(0), w(0), mine}, 1},
		{[]api.Done{w(8), w(0), w(0)}, []api.Done{w(8), w(0), w(96)}, []api.Done{w(80), mine}, 12},
		{[]api.Done{w(8), w(0), w(0)}, []api.Done{w(8), w(0), w(0)}, []api.Done{w(88), w(80), mine}, 11},
		{[]api.Done{w(8), w(0), w(100)}, []api.Done{w(8), w(0)}, []api.Done{w(80), mine}, 12},
		{[]api.Done{w(0), w(0), w(0)}, []api.Done{w(0), w(0), w(0)}, []api.Done{word(con(73, 1, 0)), w(7), w(0)}, 9},
		{[]api.Done{w(0), w(0), w(0)}, []api.Done{w(0), w(0), w(0)}, []api.Done{mine, w(7), gone()}, 0},
	} {
		got := [][]api.Done{x.reads, x.promises}
		if x.accepts != nil {
			got = append(got, x.accepts)
		}
		ends(t, j, got, lost(x.round))
	}
}

// Promise 9.2: beside ErrMajority and beside OK there is no Round, and beside an error no Value.
func TestOtherFieldsAreZero(t *testing.T) {
	j := job(3, 9, 0) // ballot 73
	w := word(con(70, 9, 8))
	mine := word(con(73, 9, 8))
	ends(t, j, [][]api.Done{{w, gone(), gone()}}, failed(api.ErrMajority))
	ends(t, j, [][]api.Done{{w, w, w}, {word(con(80, 9, 8)), gone(), gone()}}, failed(api.ErrMajority))
	ends(t, j, [][]api.Done{{w, w, w}, {w, w, w}, {word(con(80, 9, 8)), gone(), gone()}}, failed(api.ErrMajority))
	ends(t, j, [][]api.Done{{w, w, w}, {w, w, w}, {word(con(80, 9, 8)), mine, mine}}, decided(8))
	ends(t, j, [][]api.Done{{w, w, w}, {w, w, w}, {word(con(80, 9, 8)), mine, word(con(80, 8, 8))}}, lost(10))
}
