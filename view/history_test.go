package view_test

import (
	"testing"

	"bodega/api"
	"bodega/view"
)

// The histories of a store of three memory nodes, step by step as the chapters on the view change tell them, with the
// contents of a memory node told by the set of the transactions that it holds.

const (
	historyNodes = 3
	lastBoot     = 2 // greatest boot number of a history
	lastView     = 3 // greatest view number
	lastCommit   = 1 // number of the transactions
)

// place is a memory node.
type place struct {
	up        bool
	boot, key int // the key is 2 * view number, plus 1 while the view is open
	held      int // a bit for each transaction
}

// history is the state of a store: the views before the last one no longer matter.
type history struct {
	places    [historyNodes]place
	value     uint64 // of the last view
	number    int
	copied    bool // the data of the last view are on all its members
	committed int  // how many transactions
}

// newHistory returns the state that a store begins with.
func newHistory(t *testing.T) history {
	v, _ := view.Initial(historyNodes)
	value, code := view.Value(v)
	if code != api.OK {
		t.Fatalf("the first view: %v", code)
	}
	h := history{value: value, copied: true}
	for i := range h.places {
		h.places[i] = place{up: true, boot: 1, key: 1}
	}
	return h
}

// last returns the last view.
func (h history) last(t *testing.T) api.View {
	v, code := view.Parse(h.number, h.value, historyNodes)
	if code != api.OK {
		t.Fatalf("the last view: %v", code)
	}
	return v
}

// boots returns the boot numbers of the nodes that are up, and whether one of them shows the open key.
func (h history) boots() (boots []int, opened bool) {
	boots = make([]int, historyNodes)
	for i, p := range h.places {
		if p.up {
			boots[i] = p.boot
			opened = opened || p.key == 2*h.number+1
		}
	}
	return boots, opened
}

// every reports whether f holds for the memory nodes of all members, each of which is up with its boot number.
func (h history) every(members []api.Member, f func(p place) bool) bool {
	for _, m := range members {
		p := h.places[m.Node]
		if !p.up || p.boot != m.Boot || !f(p) {
			return false
		}
	}
	return true
}

// failures returns the states after a memory node has failed.
func (h history) failures() []history {
	var all []history
	for i, p := range h.places {
		if p.up {
			again := h
			again.places[i].up = false
			all = append(all, again)
		}
	}
	return all
}

// returns returns the states after a memory node has come back, with what it held when it failed or with the contents
// of the beginning: the views count on neither.
func (h history) returns() []history {
	var all []history
	for i, p := range h.places {
		for _, held := range []int{p.held, 0} {
			if !p.up && p.boot < lastBoot {
				again := h
				again.places[i] = place{up: true, boot: p.boot + 1, key: p.key, held: held}
				all = append(all, again)
			}
		}
	}
	return all
}

// transactions returns the state after a transaction, which needs all members with the open key.
func (h history) transactions(v api.View) []history {
	open := func(p place) bool { return p.key == 2*h.number+1 }
	if h.committed == lastCommit || !h.every(v.Members, open) {
		return nil
	}
	for _, m := range v.Members {
		h.places[m.Node].held |= 1 << h.committed
	}
	h.committed++
	return []history{h}
}

// proposals returns the state after another view has been proposed.
func (h history) proposals(v api.View) []history {
	boots, opened := h.boots()
	next, code := view.Propose(v, opened, boots)
	if code != api.OK || next.Number > lastView {
		return nil
	}
	h.value, _ = view.Value(next)
	h.number, h.copied = next.Number, false
	return []history{h}
}

// closings returns the states after a memory node has got the closed key.
func (h history) closings() []history {
	var all []history
	for i, p := range h.places {
		if p.up && p.key < 2*h.number {
			again := h
			again.places[i].key = 2 * h.number
			all = append(all, again)
		}
	}
	return all
}

// copies returns the state after the first full member's data were copied to all members that are not full, which
// needs the closed key on all of them.
func (h history) copies(v api.View) []history {
	closed := func(p place) bool { return p.key == 2*h.number }
	if h.copied || !h.every(v.Members, closed) {
		return nil
	}
	source := h.places[view.Full(v)[0].Node]
	for _, m := range v.Members {
		if !m.Full {
			h.places[m.Node].held = source.held
		}
	}
	h.copied = true
	return []history{h}
}

// openings returns the states after a member has got the open key.
func (h history) openings(v api.View) []history {
	var all []history
	for _, m := range v.Members {
		if p := h.places[m.Node]; h.copied && p.up && p.boot == m.Boot && p.key == 2*h.number {
			again := h
			again.places[m.Node].key++
			all = append(all, again)
		}
	}
	return all
}

// follow returns all states that can follow.
func (h history) follow(v api.View) []history {
	all := append(h.failures(), h.returns()...)
	all = append(all, h.transactions(v)...)
	all = append(all, h.proposals(v)...)
	all = append(all, h.closings()...)
	all = append(all, h.copies(v)...)
	return append(all, h.openings(v)...)
}

// Promise 10.5: in every history of three memory nodes, the full members of a proposed view hold all that was committed
// before, and so do all members once the data are copied.
func TestFullMembersHoldTheData(t *testing.T) {
	work := []history{newHistory(t)}
	seen := map[history]bool{work[0]: true}
	proposed, opened := 0, 0
	for len(work) > 0 {
		h := work[len(work)-1]
		work = work[:len(work)-1]
		v := h.last(t)
		for _, m := range v.Members {
			if p := h.places[m.Node]; p.boot == m.Boot && (m.Full || h.copied) && p.held != 1<<h.committed-1 {
				t.Fatalf("%+v in view %+v: node %d holds %b of %d transactions", h, v, m.Node, p.held, h.committed)
			}
		}
		if h.number > 0 && h.copied {
			opened++
		} else if h.number > 0 {
			proposed++
		}
		for _, again := range h.follow(v) {
			if !seen[again] {
				seen[again] = true
				work = append(work, again)
			}
		}
	}
	t.Logf("%d states, %d of them after a proposal, %d after the copying", len(seen), proposed, opened)
	if proposed == 0 || opened == 0 {
		t.Errorf("%d states after a proposal, %d after the copying", proposed, opened)
	}
}
