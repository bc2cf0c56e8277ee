package view_test

import (
	"testing"

	"bodega/api"
	"bodega/view"
)

// valid fails the test unless Valid returns the code and leaves the view as it is.
func valid(t *testing.T, v api.View, nodes int, want api.Errno) {
	t.Helper()
	before := copied(v)
	if got := view.Valid(v, nodes); got != want {
		t.Errorf("Valid of %+v for %d memory nodes: %v; want %v", v, nodes, got, want)
	}
	if !equal(v, before) {
		t.Errorf("Valid has changed %+v to %+v", before, v)
	}
}

// Promise 10.1: every list of members with boot numbers at both ends, for every number of memory nodes: valid is what
// has a full member and no node beyond the last.
func TestValidMembers(t *testing.T) {
	each(5, choices(1, 31), func(members []api.Member) {
		for nodes := 1; nodes <= 5; nodes++ {
			want := api.OK
			switch {
			case len(members) == 0 || members[len(members)-1].Node >= nodes:
				want = api.ErrArg
			case !someFull(members):
				want = api.ErrNoData
			}
			valid(t, of(0, members...), nodes, want)
		}
	})
}

// Promise 10.1: the number of memory nodes.
func TestValidNodes(t *testing.T) {
	for nodes := 1; nodes <= 5; nodes++ {
		valid(t, of(0, full(0, 1)), nodes, api.OK)
		valid(t, of(0, full(nodes-1, 1)), nodes, api.OK)
		valid(t, of(0, full(nodes, 1)), nodes, api.ErrArg)
	}
	for _, nodes := range append(far(), -2, -1, 0, 6, 7) {
		valid(t, of(0, full(0, 1)), nodes, api.ErrArg)
	}
}

// Promise 10.1: the number of the view.
func TestValidNumber(t *testing.T) {
	for number := 0; number <= 15; number++ {
		valid(t, of(number, full(0, 1)), 1, api.OK)
	}
	for _, number := range append(far(), -2, -1, 16, 17) {
		valid(t, of(number, full(0, 1)), 1, api.ErrRange)
	}
}

// Promise 10.1: nodes that do not ascend strictly, wherever they stand.
func TestValidOrder(t *testing.T) {
	valid(t, of(0, full(0, 1), full(0, 1)), 5, api.ErrArg)
	valid(t, of(0, full(1, 1), full(0, 1)), 5, api.ErrArg)
	valid(t, of(0, full(4, 1), full(4, 2)), 5, api.ErrArg)
	valid(t, of(0, full(0, 1), full(2, 1), full(1, 1)), 5, api.ErrArg)
	valid(t, of(0, full(0, 1), full(1, 1), full(1, 1), full(2, 1)), 5, api.ErrArg)
	valid(t, of(0, full(0, 1), full(1, 1), full(2, 1), full(3, 1), full(4, 1), full(4, 1)), 5, api.ErrArg)
	valid(t, of(0, full(0, 1), full(1, 1), full(2, 1), full(3, 1), full(4, 1), full(0, 1)), 5, api.ErrArg)
	valid(t, of(0, full(0, 1), full(1, 1), full(2, 1), full(3, 1), full(4, 1)), 5, api.OK)
	valid(t, of(0, make([]api.Member, 1000)...), 5, api.ErrArg)
}

// Promise 10.1: nodes out of range, at each place.
func TestValidNodeOfAMember(t *testing.T) {
	for _, node := range append(far(), -2, -1, 5, 6) {
		valid(t, of(0, full(node, 1)), 5, api.ErrArg)
		valid(t, of(0, full(0, 1), full(node, 1)), 5, api.ErrArg)
		valid(t, of(0, full(node, 1), full(1, 1)), 5, api.ErrArg)
	}
	valid(t, of(0, full(1, 1), full(2, 1), full(3, 1)), 4, api.OK)
	valid(t, of(0, full(1, 1), full(2, 1), full(3, 1)), 3, api.ErrArg)
}

// Promise 10.1: the boot numbers, at each place.
func TestValidBoot(t *testing.T) {
	for boot := 1; boot <= 31; boot++ {
		valid(t, of(0, full(0, boot)), 1, api.OK)
		valid(t, of(0, part(0, 1), full(1, boot)), 2, api.OK)
	}
	for _, boot := range append(far(), -1, 0, 32, 33, 63, 64) {
		valid(t, of(0, full(0, boot)), 5, api.ErrRange)
		valid(t, of(0, full(0, 1), part(1, boot), full(2, 1)), 5, api.ErrRange)
		valid(t, of(0, full(0, 1), part(4, boot)), 5, api.ErrRange)
	}
}

// Promise 10.1: there is no member, or none that is full.
func TestValidWithoutData(t *testing.T) {
	valid(t, of(0), 1, api.ErrArg)
	valid(t, of(0, []api.Member{}...), 1, api.ErrArg)
	valid(t, of(0, part(0, 1)), 1, api.ErrNoData)
	valid(t, of(0, part(0, 1), part(1, 1), part(2, 1), part(3, 1), part(4, 1)), 5, api.ErrNoData)
	valid(t, of(0, part(0, 1), part(1, 1), part(2, 1), part(3, 1), full(4, 1)), 5, api.OK)
}

// Promise 10.1: of several errors the first one of the list, whichever of the five apply.
func TestValidFirstError(t *testing.T) {
	codes := []api.Errno{api.ErrArg, api.ErrRange, api.ErrArg, api.ErrRange, api.ErrNoData}
	for faults := 1; faults < 32; faults++ {
		v, nodes := of(3, full(0, 1), full(1, 1)), 2
		if faults&1 != 0 {
			nodes = 6
		}
		if faults&2 != 0 {
			v.Number = 16
		}
		if faults&4 != 0 {
			v.Members[1].Node = 0
		}
		if faults&8 != 0 {
			v.Members[0].Boot = 32
		}
		if faults&16 != 0 {
			v.Members[0].Full, v.Members[1].Full = false, false
		}
		first := 0
		for faults>>first&1 == 0 {
			first++
		}
		valid(t, v, nodes, codes[first])
	}
	for _, nodes := range append(far(), -1, 0, 6) {
		valid(t, of(16), nodes, api.ErrArg)
		valid(t, of(-1, part(0, 0)), nodes, api.ErrArg)
		valid(t, of(0, part(0, 0)), nodes, api.ErrArg)
	}
	valid(t, of(16), 1, api.ErrRange)                                    // and no members
	valid(t, of(0, full(0, 0), full(5, 1)), 5, api.ErrArg)               // the order of all members before the boot number of the first one
	valid(t, of(0, full(-1, 0)), 5, api.ErrArg)                          // a node out of range before its boot number
	valid(t, of(0, part(0, 1), part(1, 1), part(2, 0)), 5, api.ErrRange) // a boot number before the lack of data
}

// Promise 10.1: Same compares the numbers and the members.
func TestSame(t *testing.T) {
	a := of(3, full(0, 1), part(2, 31))
	for _, x := range []struct {
		b    api.View
		want bool
	}{
		{of(3, full(0, 1), part(2, 31)), true},
		{of(2, full(0, 1), part(2, 31)), false},
		{of(-3, full(0, 1), part(2, 31)), false},
		{of(3, full(1, 1), part(2, 31)), false},
		{of(3, full(0, 2), part(2, 31)), false},
		{of(3, part(0, 1), part(2, 31)), false},
		{of(3, full(0, 1), part(3, 31)), false},
		{of(3, full(0, 1), part(2, 30)), false},
		{of(3, full(0, 1), full(2, 31)), false},
		{of(3, part(2, 31), full(0, 1)), false},
		{of(3, full(0, 1)), false},
		{of(3, full(0, 1), part(2, 31), part(4, 1)), false},
		{of(3), false},
		{api.View{}, false},
	} {
		before, other := copied(a), copied(x.b)
		if view.Same(a, x.b) != x.want || view.Same(x.b, a) != x.want {
			t.Errorf("Same of %+v and %+v: %v and %v; want %v", a, x.b, view.Same(a, x.b), view.Same(x.b, a), x.want)
		}
		if !equal(a, before) || !equal(x.b, other) {
			t.Errorf("Same has changed %+v and %+v to %+v and %+v", before, other, a, x.b)
		}
	}
}

// Promise 10.1: Same compares views that are not valid, too, and takes no members for an empty slice of them.
func TestSameOfAnyViews(t *testing.T) {
	odd := of(-7, full(9, -1), full(9, -1), part(minInt, maxInt))
	if !view.Same(odd, copied(odd)) || view.Same(odd, of(-7, full(9, -1), full(9, -1), part(minInt, maxInt-1))) {
		t.Errorf("Same of views that are not valid")
	}
	if !view.Same(api.View{Number: 2}, api.View{Number: 2, Members: []api.Member{}}) {
		t.Errorf("nil and no members differ")
	}
	if !view.Same(api.View{}, api.View{}) || view.Same(api.View{}, api.View{Number: 1}) {
		t.Errorf("Same of views without members")
	}
}
