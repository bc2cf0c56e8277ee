package view_test

import (
	"slices"
	"testing"

	"bodega/api"
	"bodega/view"
)

// proposes fails the test unless Propose returns the view and the code, and leaves its arguments as they are.
func proposes(t *testing.T, v api.View, opened bool, boots []int, want api.View, code api.Errno) {
	t.Helper()
	before, same := copied(v), slices.Clone(boots)
	got, e := view.Propose(v, opened, boots)
	if !equal(got, want) || e != code {
		t.Errorf("Propose of %+v (opened: %v) for %v: %+v, %v; want %+v, %v", v, opened, boots, got, e, want, code)
	}
	if !equal(v, before) || !slices.Equal(boots, same) {
		t.Errorf("Propose has changed %+v, %v to %+v, %v", before, same, v, boots)
	}
}

// refuses fails the test unless Propose returns the code, whether the view was opened or not.
func refuses(t *testing.T, v api.View, boots []int, code api.Errno) {
	t.Helper()
	proposes(t, v, false, boots, api.View{}, code)
	proposes(t, v, true, boots, api.View{}, code)
}

// next returns the members to follow a view, put together node by node.
func next(v api.View, opened bool, boots []int) []api.Member {
	was := map[int]api.Member{}
	for _, m := range v.Members {
		was[m.Node] = m
	}
	var members []api.Member
	for node := range boots {
		if boots[node] > 0 {
			m := api.Member{Node: node, Boot: boots[node]}
			if old, ok := was[node]; ok && old.Boot == m.Boot {
				m.Full = old.Full || opened
			}
			members = append(members, m)
		}
	}
	return members
}

// eachBoots calls f with all lists of that many boot numbers of those.
func eachBoots(nodes int, choices []int, f func(boots []int)) {
	boots := make([]int, nodes)
	var set func(node int)
	set = func(node int) {
		if node == nodes {
			f(boots)
			return
		}
		for _, boots[node] = range choices {
			set(node + 1)
		}
	}
	set(0)
}

// proposal checks Propose of a view that is valid but for the lack of a full member.
func proposal(t *testing.T, v api.View, opened bool, boots []int) {
	t.Helper()
	members := next(v, opened, boots)
	switch {
	case len(v.Members) == 0:
		proposes(t, v, opened, boots, api.View{}, api.ErrArg)
	case !someFull(v.Members):
		proposes(t, v, opened, boots, api.View{}, api.ErrNoData)
	case v.Number == 15:
		proposes(t, v, opened, boots, api.View{}, api.ErrFull)
	case len(members) <= len(boots)-len(members):
		proposes(t, v, opened, boots, api.View{}, api.ErrMajority)
	case !someFull(members):
		proposes(t, v, opened, boots, api.View{}, api.ErrNoData)
	default:
		proposes(t, v, opened, boots, of(v.Number+1, members...), api.OK)
	}
}

// Promise 10.4: every view of up to three memory nodes with two boot numbers, every answer of them.
func TestPropose(t *testing.T) {
	for nodes := 1; nodes <= 3; nodes++ {
		each(nodes, choices(1, 2), func(members []api.Member) {
			eachBoots(nodes, []int{0, 1, 2, 31}, func(boots []int) {
				for _, number := range []int{0, 14, 15} {
					proposal(t, of(number, members...), false, boots)
					proposal(t, of(number, members...), true, boots)
				}
			})
		})
	}
}

// Promise 10.4: the same of four and of five memory nodes, which answer with the boot number of the view or with
// another one.
func TestProposeOfMoreNodes(t *testing.T) {
	for nodes := 4; nodes <= 5; nodes++ {
		each(nodes, choices(3), func(members []api.Member) {
			eachBoots(nodes, []int{0, 3, 4}, func(boots []int) {
				proposal(t, of(7, members...), false, boots)
				proposal(t, of(7, members...), true, boots)
			})
		})
	}
}

// Promise 10.4: cases told one by one.
func TestProposeByHand(t *testing.T) {
	v := of(3, full(0, 1), part(1, 2), full(2, 1))
	proposes(t, v, false, []int{1, 2, 1}, of(4, full(0, 1), part(1, 2), full(2, 1)), api.OK)
	proposes(t, v, true, []int{1, 2, 1}, of(4, full(0, 1), full(1, 2), full(2, 1)), api.OK)
	proposes(t, v, false, []int{1, 2, 0}, of(4, full(0, 1), part(1, 2)), api.OK)
	proposes(t, v, true, []int{0, 2, 2}, of(4, full(1, 2), part(2, 2)), api.OK)
	proposes(t, v, false, []int{0, 2, 2}, api.View{}, api.ErrNoData)
	proposes(t, v, true, []int{2, 3, 2}, api.View{}, api.ErrNoData)
	proposes(t, v, true, []int{1, 1, 1}, of(4, full(0, 1), part(1, 1), full(2, 1)), api.OK)
	proposes(t, v, true, []int{1, 2, 1, 5, 0}, of(4, full(0, 1), full(1, 2), full(2, 1), part(3, 5)), api.OK)
	proposes(t, v, true, []int{1, 0, 0}, api.View{}, api.ErrMajority)
	proposes(t, v, true, []int{0, 0, 0}, api.View{}, api.ErrMajority)
	proposes(t, of(0, full(0, 1)), false, []int{1, 0}, api.View{}, api.ErrMajority)
	proposes(t, of(0, full(0, 1)), false, []int{1, 31}, of(1, full(0, 1), part(1, 31)), api.OK)
	proposes(t, of(0, full(0, 1)), true, []int{1}, of(1, full(0, 1)), api.OK)
	proposes(t, of(14, full(0, 31)), false, []int{31}, of(15, full(0, 31)), api.OK)
	// A memory node that was no member may have any boot number: it missed what was committed.
	proposes(t, of(0, full(0, 1), full(1, 1)), true, []int{1, 1, 1}, of(1, full(0, 1), full(1, 1), part(2, 1)), api.OK)
}

// Promise 10.4: a proposed view is valid for the memory nodes, so that it has a value.
func TestProposedIsValid(t *testing.T) {
	count := 0
	each(3, choices(1, 31), func(members []api.Member) {
		eachBoots(3, []int{0, 1, 31}, func(boots []int) {
			for _, opened := range []bool{false, true} {
				v, code := view.Propose(of(5, members...), opened, boots)
				if code != api.OK {
					continue
				}
				count++
				value, code := view.Value(v)
				if view.Valid(v, 3) != api.OK || code != api.OK {
					t.Errorf("the proposed view %+v: %v, %v", v, view.Valid(v, 3), code)
				}
				parses(t, value, 3, v)
			}
		})
	})
	if count == 0 {
		t.Errorf("no view was proposed")
	}
}

// Promise 10.4: the view is one of as many memory nodes as there are boot numbers.
func TestProposeNodes(t *testing.T) {
	for nodes := 1; nodes <= 5; nodes++ {
		boots := []int{1, 1, 1, 1, 1}[:nodes]
		proposes(t, of(0, full(nodes-1, 1)), false, boots, of(1, next(of(0, full(nodes-1, 1)), false, boots)...), api.OK)
		refuses(t, of(0, full(0, 1), full(nodes, 1)), boots, api.ErrArg)
	}
	refuses(t, of(0, full(0, 1)), nil, api.ErrArg)
	refuses(t, of(0, full(0, 1)), []int{}, api.ErrArg)
	refuses(t, of(0, full(0, 1)), []int{1, 1, 1, 1, 1, 1}, api.ErrArg)
	refuses(t, of(0, full(0, 1)), make([]int, 1000), api.ErrArg)
}

// Promise 10.4: the errors of the view.
func TestProposeErrorsOfTheView(t *testing.T) {
	refuses(t, api.View{}, []int{1}, api.ErrArg)
	refuses(t, of(0, full(1, 1), full(0, 1)), []int{1, 1}, api.ErrArg)
	refuses(t, of(0, full(1, 1), full(1, 1)), []int{1, 1}, api.ErrArg)
	refuses(t, of(0, full(0, 0)), []int{1}, api.ErrRange)
	refuses(t, of(0, full(0, 32)), []int{1}, api.ErrRange)
	refuses(t, of(0, part(0, 1), part(1, 1)), []int{1, 1}, api.ErrNoData)
	for _, x := range append(far(), -1) {
		refuses(t, of(x, full(0, 1)), []int{1}, api.ErrRange)
		refuses(t, of(0, full(x, 1)), []int{1}, api.ErrArg)
		refuses(t, of(0, full(0, x)), []int{1}, api.ErrRange)
	}
	refuses(t, of(16, full(0, 1)), []int{1}, api.ErrRange)
	refuses(t, of(15, full(0, 1)), []int{1}, api.ErrFull)
}

// Promise 10.4: boot numbers out of range, at each place.
func TestProposeBoots(t *testing.T) {
	v := of(0, full(0, 1), full(1, 1), full(2, 1))
	for _, boot := range append(far(), -2, -1, 32, 33, 63) {
		refuses(t, v, []int{boot, 1, 1}, api.ErrRange)
		refuses(t, v, []int{1, boot, 1}, api.ErrRange)
		refuses(t, v, []int{1, 1, boot}, api.ErrRange)
		refuses(t, v, []int{1, 1, 1, 1, boot}, api.ErrRange)
	}
	for boot := 1; boot <= 31; boot++ {
		proposes(t, of(0, full(0, boot)), false, []int{boot}, of(1, full(0, boot)), api.OK)
		proposes(t, of(0, full(0, 1)), false, []int{1, boot}, of(1, full(0, 1), part(1, boot)), api.OK)
	}
}

// Promise 10.4: of several errors the first one of the list, whichever of the five apply.
func TestProposeFirstError(t *testing.T) {
	codes := []api.Errno{api.ErrNoData, api.ErrRange, api.ErrFull, api.ErrMajority, api.ErrNoData}
	for faults := 1; faults < 32; faults++ {
		v, boots := of(3, full(0, 1), part(1, 1), part(2, 1)), []int{1, 1, 1}
		if faults&16 != 0 {
			boots[0] = 2
		}
		if faults&8 != 0 {
			boots[1], boots[2] = 0, 0
		}
		if faults&4 != 0 {
			v.Number = 15
		}
		if faults&2 != 0 {
			boots[2] = 32
		}
		if faults&1 != 0 {
			v.Members[0].Full = false
		}
		if faults&10 == 10 {
			boots = append(boots, 0) // one of three answers and another one is out of range: at most half of four
		}
		first := 0
		for faults>>first&1 == 0 {
			first++
		}
		proposes(t, v, false, boots, api.View{}, codes[first])
	}
	refuses(t, of(16, full(0, 1)), []int{32}, api.ErrRange)
	refuses(t, of(0, full(1, 1)), []int{-1}, api.ErrArg)
	refuses(t, of(15, full(0, 1)), []int{0}, api.ErrFull)
}

// Rule R2: the members of a proposed view are new memory.
func TestProposedMemory(t *testing.T) {
	v, boots := of(0, full(0, 1), full(1, 1)), []int{1, 1}
	got, _ := view.Propose(v, true, boots)
	got.Members[0], got.Members[1] = api.Member{Node: 77}, api.Member{Node: 77}
	if !equal(v, of(0, full(0, 1), full(1, 1))) {
		t.Errorf("the proposed view shares memory with the one before: %+v", v)
	}
	again, _ := view.Propose(v, true, boots)
	if !equal(again, of(1, full(0, 1), full(1, 1))) {
		t.Errorf("two proposed views share memory: %+v", again)
	}
}
