package view_test

import (
	"slices"
	"testing"

	"bodega/api"
	"bodega/layout"
	"bodega/view"
)

// bits returns the value with those bits.
func bits(set ...int) uint64 {
	w := uint64(0)
	for _, b := range set {
		w |= uint64(1) << b
	}
	return w
}

// valueOf returns the value of a view, put together by arithmetic: 128 is a step from one node to the next, 4 a step
// from one boot number to the next.
func valueOf(members []api.Member) uint64 {
	value := uint64(549_755_813_888)
	for _, m := range members {
		share := uint64(1 + 4*m.Boot)
		if m.Full {
			share += 2
		}
		for range m.Node {
			share *= 128
		}
		value += share
	}
	return value
}

// packs fails the test unless Value returns the value and the code, and leaves the view as it is.
func packs(t *testing.T, v api.View, want uint64, code api.Errno) {
	t.Helper()
	before := copied(v)
	if got, e := view.Value(v); got != want || e != code {
		t.Errorf("Value of %+v: %#x, %v; want %#x, %v", v, got, e, want, code)
	}
	if !equal(v, before) {
		t.Errorf("Value has changed %+v to %+v", before, v)
	}
}

// parses fails the test unless Parse returns the view.
func parses(t *testing.T, value uint64, nodes int, want api.View) {
	t.Helper()
	if got, e := view.Parse(want.Number, value, nodes); !equal(got, want) || e != api.OK {
		t.Errorf("Parse of %d, %#x for %d memory nodes: %+v, %v; want %+v", want.Number, value, nodes, got, e, want)
	}
}

// rejects fails the test unless Parse finds no view.
func rejects(t *testing.T, number int, value uint64, nodes int) {
	t.Helper()
	if got, e := view.Parse(number, value, nodes); !equal(got, api.View{}) || e != api.ErrCorrupt {
		t.Errorf("Parse of %d, %#x for %d memory nodes: %+v, %v; want none, %v", number, value, nodes, got, e, api.ErrCorrupt)
	}
}

// Promise 10.2: values bit by bit.
func TestValue(t *testing.T) {
	packs(t, of(0, full(0, 1)), bits(39, 0, 1, 2), api.OK)
	packs(t, of(0, full(0, 1)), 1<<39+7, api.OK)
	packs(t, of(0, full(0, 2)), bits(39, 0, 1, 3), api.OK)
	packs(t, of(0, full(0, 16)), bits(39, 0, 1, 6), api.OK)
	packs(t, of(0, full(0, 31)), bits(39, 0, 1, 2, 3, 4, 5, 6), api.OK)
	packs(t, of(0, full(1, 1)), bits(39, 7, 8, 9), api.OK)
	packs(t, of(0, full(2, 1)), bits(39, 14, 15, 16), api.OK)
	packs(t, of(0, full(3, 1)), bits(39, 21, 22, 23), api.OK)
	packs(t, of(0, full(4, 1)), bits(39, 28, 29, 30), api.OK)
	packs(t, of(0, full(4, 31)), bits(39, 28, 29, 30, 31, 32, 33, 34), api.OK)
	packs(t, of(0, part(0, 1), full(1, 1)), bits(39, 0, 2, 7, 8, 9), api.OK)
	packs(t, of(0, full(1, 5), part(3, 10)), bits(39, 7, 8, 9, 11, 21, 24, 26), api.OK)
}

// Promise 10.2: the number of a view is no part of its value.
func TestValueOfEveryNumber(t *testing.T) {
	for number := 0; number <= 15; number++ {
		packs(t, of(number, full(0, 1), part(2, 31)), bits(39, 0, 1, 2, 14, 16, 17, 18, 19, 20), api.OK)
	}
}

// Promise 10.2: Value checks the view for five memory nodes.
func TestValueErrors(t *testing.T) {
	packs(t, api.View{}, 0, api.ErrArg)
	packs(t, of(16, full(0, 1)), 0, api.ErrRange)
	packs(t, of(-1, full(0, 1)), 0, api.ErrRange)
	packs(t, of(16), 0, api.ErrRange)
	packs(t, of(0, full(5, 1)), 0, api.ErrArg)
	packs(t, of(0, full(-1, 1)), 0, api.ErrArg)
	packs(t, of(0, full(1, 1), full(0, 1)), 0, api.ErrArg)
	packs(t, of(0, full(1, 1), full(1, 1)), 0, api.ErrArg)
	packs(t, of(0, full(0, 0)), 0, api.ErrRange)
	packs(t, of(0, full(0, 1), full(1, 32)), 0, api.ErrRange)
	packs(t, of(0, part(0, 1), part(1, 1)), 0, api.ErrNoData)
	for _, x := range far() {
		packs(t, of(x, full(0, 1)), 0, api.ErrRange)
		packs(t, of(0, full(x, 1)), 0, api.ErrArg)
		packs(t, of(0, full(0, x)), 0, api.ErrRange)
	}
}

// Promise 10.2: every list of members with boot numbers at both ends: Value and Parse are inverse to each other, and
// Parse returns no view to fewer memory nodes than it has.
func TestValueAndParse(t *testing.T) {
	seen := map[uint64]bool{}
	each(5, choices(1, 16, 31), func(members []api.Member) {
		value := valueOf(members)
		if !someFull(members) {
			rejects(t, 4, value, 5)
			return
		}
		if seen[value] {
			t.Errorf("two views have the value %#x", value)
		}
		seen[value] = true
		v := of(4, members...)
		packs(t, v, value, api.OK)
		for nodes := 1; nodes <= 5; nodes++ {
			if members[len(members)-1].Node < nodes {
				parses(t, value, nodes, v)
			} else {
				rejects(t, 4, value, nodes)
			}
		}
	})
	if len(seen) != 7*7*7*7*7-4*4*4*4*4 {
		t.Errorf("%d views have a value", len(seen))
	}
}

// Promise 10.2: every boot number of every node.
func TestParseBoots(t *testing.T) {
	for node := range 5 {
		for boot := 1; boot <= 31; boot++ {
			for _, m := range []api.Member{full(node, boot), part(node, boot)} {
				other := full((node+1)%5, 1)
				members := []api.Member{m, other}
				slices.SortFunc(members, func(a, b api.Member) int { return a.Node - b.Node })
				packs(t, of(0, members...), valueOf(members), api.OK)
				parses(t, valueOf(members), 5, of(0, members...))
			}
		}
	}
}

// Promise 10.2: all 128 shares of a value that a node can have, beside another member: a share is that of no member, or
// of a member with a boot number.
func TestParseShares(t *testing.T) {
	for node := range 5 {
		other := full((node+1)%5, 3)
		for share := range uint64(128) {
			value := valueOf([]api.Member{other})
			at := share
			for range node {
				at *= 128
			}
			value += at
			member, boot := share%2 == 1, int(share/4)
			switch {
			case share == 0:
				parses(t, value, 5, of(9, other))
			case !member || boot == 0:
				rejects(t, 9, value, 5)
			default:
				members := []api.Member{other, {Node: node, Boot: boot, Full: share/2%2 == 1}}
				slices.SortFunc(members, func(a, b api.Member) int { return a.Node - b.Node })
				parses(t, value, 5, of(9, members...))
			}
		}
	}
}

// Promise 10.2: bit 39 is 1 and all bits that belong to nothing are 0.
func TestParseOtherBits(t *testing.T) {
	for _, members := range [][]api.Member{
		{full(0, 1)},
		{full(4, 31)},
		{full(0, 31), part(1, 31), full(2, 31), part(3, 31), full(4, 31)},
	} {
		value := valueOf(members)
		parses(t, value, 5, of(0, members...))
		rejects(t, 0, value-1<<39, 5)
		for b := 35; b < 64; b++ {
			if b != 39 {
				rejects(t, 0, value+1<<b, 5)
				rejects(t, 0, value-1<<39+1<<b, 5)
			}
		}
		rejects(t, 0, value|^(uint64(1)<<40-1), 5)
	}
	for _, value := range []uint64{0, 1 << 39, 7, 1<<40 - 1, 1 << 63, top, top - 1} {
		rejects(t, 0, value, 5)
	}
}

// Promise 10.2: the numbers, of the view and of memory nodes, with which there is no view.
func TestParseNumbers(t *testing.T) {
	value := valueOf([]api.Member{full(0, 1)})
	for number := 0; number <= 15; number++ {
		parses(t, value, 1, of(number, full(0, 1)))
	}
	for _, number := range append(far(), -2, -1, 16, 17) {
		rejects(t, number, value, 1)
	}
	for _, nodes := range append(far(), -2, -1, 0, 6, 7) {
		rejects(t, 0, value, nodes)
	}
	rejects(t, -1, 0, 0)
}

// Rule R2: each call of Parse and of Initial returns new memory.
func TestParsedMemory(t *testing.T) {
	value := valueOf([]api.Member{full(0, 1), part(1, 2)})
	first, _ := view.Parse(1, value, 2)
	again, _ := view.Parse(1, value, 2)
	first.Members[0] = api.Member{Node: 77}
	if !equal(again, of(1, full(0, 1), part(1, 2))) {
		t.Errorf("two results of Parse share memory")
	}
	one, _ := view.Initial(2)
	two, _ := view.Initial(2)
	one.Members[0] = api.Member{Node: 77}
	if !equal(two, of(0, full(0, 1), full(1, 1))) {
		t.Errorf("two results of Initial share memory")
	}
}

// Promise 10.2: the view that a store begins with, whose value is that which layout.Format writes.
func TestInitial(t *testing.T) {
	for nodes := 1; nodes <= 5; nodes++ {
		var members []api.Member
		for node := range nodes {
			members = append(members, full(node, 1))
		}
		v, code := view.Initial(nodes)
		if !equal(v, of(0, members...)) || code != api.OK {
			t.Errorf("Initial of %d memory nodes: %+v, %v", nodes, v, code)
		}
		want, _ := layout.InitialValue(nodes)
		packs(t, v, want, api.OK)
		packs(t, v, valueOf(members), api.OK)
	}
	for _, nodes := range append(far(), -2, -1, 0, 6, 7) {
		if v, code := view.Initial(nodes); !equal(v, api.View{}) || code != api.ErrArg {
			t.Errorf("Initial of %d memory nodes: %+v, %v", nodes, v, code)
		}
	}
}
