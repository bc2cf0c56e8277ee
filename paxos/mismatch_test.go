package paxos_test

import (
	"math/rand"
	"testing"

	"bodega/api"
	"bodega/paxos"
)

// misfits returns completions that fit no batch of so many verbs that return one word each: of a batch that fits, one
// completion is replaced, left out or added.
func misfits(good []api.Done) [][]api.Done {
	var all [][]api.Done
	for _, bad := range []api.Done{
		{}, {Words: []uint64{}}, {Words: []uint64{1, 2}}, {Words: make([]uint64, 9)}, {Code: api.ErrArg}, {Code: api.ErrRange},
		{Code: api.ErrBusy}, {Code: api.ErrMismatch}, {Code: -1}, {Code: 100}, {Code: api.ErrBusy, Words: []uint64{0}},
		{Code: api.ErrGone, Words: []uint64{0}}, {Code: api.ErrRefused, Words: []uint64{0}}, {Code: api.ErrRefused, Words: []uint64{0, 0}},
	} {
		for i := range good {
			l := append([]api.Done{}, good...)
			l[i] = bad
			all = append(all, l)
		}
	}
	more := append(append([]api.Done{}, good...), word(0))
	return append(all, nil, []api.Done{}, good[1:], good[:len(good)-1], more, append(more, gone()))
}

// Promise 9.2 and DOC.md, "Conversations": completions that do not fit their batch, in each step.
func TestMisfits(t *testing.T) {
	for nodes := 1; nodes <= 5; nodes++ {
		j := job(nodes, 1, 0)
		zeros, last := all(nodes, word(0)), all(nodes, word(con(9, 0, 0)))
		for _, bad := range misfits(zeros) {
			ends(t, j, [][]api.Done{bad}, failed(api.ErrMismatch))
			ends(t, j, [][]api.Done{bad, zeros}, failed(api.ErrMismatch))
			ends(t, j, [][]api.Done{zeros, bad}, failed(api.ErrMismatch))
			ends(t, j, [][]api.Done{zeros, bad, last}, failed(api.ErrMismatch))
		}
		for _, bad := range misfits(last) {
			ends(t, j, [][]api.Done{zeros, zeros, bad}, failed(api.ErrMismatch))
			ends(t, j, [][]api.Done{zeros, zeros, bad, last}, failed(api.ErrMismatch))
		}
	}
}

// DOC.md, "Conversations": completions that do not fit are a mismatch also where the others would end the conversation.
func TestMisfitsBesideOtherErrors(t *testing.T) {
	j := job(3, 1, 0)
	bad := api.Done{Code: api.ErrBusy}
	zeros := all(3, word(0))
	ends(t, j, [][]api.Done{{gone(), gone(), bad}}, failed(api.ErrMismatch))
	ends(t, j, [][]api.Done{{bad, word(top), word(top)}}, failed(api.ErrMismatch))
	ends(t, j, [][]api.Done{zeros, {refused(), refused(), bad}}, failed(api.ErrMismatch))
	ends(t, j, [][]api.Done{zeros, zeros, {bad, word(7), word(7)}}, failed(api.ErrMismatch))
	// The batch of step 2 or 3 has fewer verbs where nodes were left out.
	ends(t, j, [][]api.Done{{word(0), gone(), word(0)}, zeros}, failed(api.ErrMismatch))
	ends(t, j, [][]api.Done{{word(0), word(top), word(0)}, zeros}, failed(api.ErrMismatch))
	ends(t, j, [][]api.Done{zeros, {word(0), gone(), word(0)}, all(3, word(con(9, 0, 0)))}, failed(api.ErrMismatch))
}

// DOC.md, "Conversations": more replies than batches were asked for, behind each end that a conversation can have.
func TestMoreRepliesThanBatches(t *testing.T) {
	j := job(3, 1, 0)
	zeros, last := all(3, word(0)), all(3, word(con(9, 0, 0)))
	nobody, others := all(3, gone()), all(3, word(top))
	for _, got := range [][][]api.Done{
		{nobody}, {others}, {zeros, nobody}, {zeros, others}, {zeros, zeros, nobody}, {zeros, zeros, others}, {zeros, zeros, last},
	} {
		if _, out, over := next(t, j, got); !over || out.Code == api.ErrMismatch {
			t.Errorf("%v: %+v, %v", got, out, over)
		}
		for _, more := range [][]api.Done{nil, {}, zeros, nobody, last} {
			ends(t, j, append(copied(got), more), failed(api.ErrMismatch))
			ends(t, j, append(copied(got), more, more), failed(api.ErrMismatch))
		}
	}
}

// Rule R1: whatever the jobs and the replies are, Next returns a batch or an outcome, and both are of the kinds that
// the chapter names.
func TestAnyReplies(t *testing.T) {
	r := rand.New(rand.NewSource(9))
	codes := []api.Errno{0, 0, 0, 0, 0, 0, 0, 0, api.ErrGone, api.ErrRefused, api.ErrBusy, -5}
	counts := []int{0, 1, 1, 1, 1, 1, 1, 1, 1, 2}
	words := []uint64{0, 0, 0, con(9, 0, 0), con(9, 9, 5), con(1, 1, 1), top, 1 << 63}
	for range 50000 {
		j := paxos.Job{Nodes: r.Intn(7), Number: r.Intn(18) - 1, Client: r.Intn(8) - 1, Round: r.Intn(4), Value: uint64(r.Intn(3))}
		var got [][]api.Done
		for range r.Intn(5) {
			var batch []api.Done
			for range r.Intn(6) {
				d := api.Done{Code: codes[r.Intn(len(codes))]}
				for range counts[r.Intn(len(counts))] {
					d.Words = append(d.Words, words[r.Intn(len(words))])
				}
				batch = append(batch, d)
			}
			got = append(got, batch)
		}
		ask, out, over := next(t, j, got)
		if over == (len(ask) > 0) || !over && out != failed(api.OK) || len(ask) > 5 {
			t.Errorf("Next of %+v after %v: %v %+v %v", j, got, ask, out, over)
		}
		if out.Code != api.OK && out.Value != 0 || out.Code != api.ErrLost && out.Round != 0 {
			t.Errorf("Next of %+v after %v: %+v", j, got, out)
		}
	}
}
