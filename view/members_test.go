package view_test

import (
	"reflect"
	"slices"
	"testing"

	"bodega/api"
	"bodega/view"
)

// listed fails the test unless the package finds the primary, the backups and the full members in the view as the
// chapter says, and leaves it as it is.
func listed(t *testing.T, v api.View) {
	t.Helper()
	before := copied(v)
	var first api.Member
	var others, whole []api.Member
	for i, m := range v.Members {
		if i == 0 {
			first = m
		} else {
			others = append(others, m)
		}
		if m.Full {
			whole = append(whole, m)
		}
	}
	if m, ok := view.Primary(v); m != first || ok != (len(v.Members) > 0) {
		t.Errorf("Primary of %+v: %+v, %v", v, m, ok)
	}
	if l := view.Backups(v); !slices.Equal(l, others) {
		t.Errorf("Backups of %+v: %+v", v, l)
	}
	if l := view.Full(v); !slices.Equal(l, whole) {
		t.Errorf("Full of %+v: %+v", v, l)
	}
	if !equal(v, before) {
		t.Errorf("the view %+v has become %+v", before, v)
	}
}

// Promise 10.3: the primary, the backups and the full members of every list of members.
func TestLists(t *testing.T) {
	each(5, choices(1, 31), func(members []api.Member) {
		listed(t, of(0, members...))
	})
}

// Promise 10.3: the same of views that are not valid, in the order in which their members stand.
func TestListsOfAnyView(t *testing.T) {
	listed(t, api.View{})
	listed(t, api.View{Number: -1, Members: []api.Member{}})
	listed(t, of(99, full(3, 1), part(1, 0), full(1, -1), full(3, 1), part(3, 2)))
	listed(t, of(minInt, part(maxInt, minInt), full(minInt, maxInt)))
	listed(t, of(0, part(4, 1), part(3, 1), part(2, 1)))
	listed(t, of(0, make([]api.Member, 1000)...))
	var many []api.Member
	for i := range 1000 {
		many = append(many, api.Member{Node: -i, Boot: i % 7, Full: i%3 == 0})
	}
	listed(t, of(1, many...))
}

// Rule R2: Backups and Full return new memory.
func TestListsMemory(t *testing.T) {
	v := of(0, full(0, 1), full(1, 1), full(2, 1))
	for _, f := range []func(api.View) []api.Member{view.Backups, view.Full} {
		l := f(v)
		want := slices.Clone(l)
		for i := range l {
			l[i] = api.Member{Node: 77}
		}
		_ = append(l, api.Member{Node: 78})
		if !equal(v, of(0, full(0, 1), full(1, 1), full(2, 1))) || !slices.Equal(f(v), want) {
			t.Fatalf("a result shares memory with the view: %+v", v)
		}
	}
	tail := of(0, v.Members[:2]...)
	_ = append(view.Backups(tail), part(9, 9))
	if v.Members[2] != full(2, 1) {
		t.Errorf("Backups returns the memory behind the members: %+v", v)
	}
}

// finds fails the test unless Find returns the member, or none if want has no boot number.
func finds(t *testing.T, v api.View, node int, want api.Member) {
	t.Helper()
	before := copied(v)
	if m, ok := view.Find(v, node); m != want || ok != (want.Boot != 0) {
		t.Errorf("Find of %d in %+v: %+v, %v; want %+v", node, v, m, ok, want)
	}
	if !equal(v, before) {
		t.Errorf("Find has changed %+v to %+v", before, v)
	}
}

// Promise 10.3: the member on a node.
func TestFind(t *testing.T) {
	v := of(0, part(0, 3), full(2, 4), full(3, 5))
	for node, want := range []api.Member{part(0, 3), {}, full(2, 4), full(3, 5), {}, {}} {
		finds(t, v, node, want)
	}
	for _, node := range append(far(), -1) {
		finds(t, v, node, api.Member{})
		finds(t, of(0, full(node, 7)), node, full(node, 7))
	}
	finds(t, api.View{}, 0, api.Member{})
	finds(t, api.View{Members: []api.Member{}}, 0, api.Member{})
}

// Promise 10.3: the first one of several members, in whatever order they stand.
func TestFindTheFirst(t *testing.T) {
	v := of(99, full(3, 1), part(1, 2), full(1, 3), full(3, 4), part(-1, 5))
	finds(t, v, 3, full(3, 1))
	finds(t, v, 1, part(1, 2))
	finds(t, v, -1, part(-1, 5))
	finds(t, v, 0, api.Member{})
	if m, ok := view.Find(of(0, part(1, 0)), 1); m != part(1, 0) || !ok {
		t.Errorf("a member without boot number: %+v, %v", m, ok)
	}
	if m, ok := view.Find(of(0, api.Member{}), 0); m != (api.Member{}) || !ok {
		t.Errorf("a member of zeros: %+v, %v", m, ok)
	}
}

// verbs are verbs of each kind and such as are not valid, with all their fields set.
func verbs() []api.Verb {
	var all []api.Verb
	for _, kind := range []int{0, 1, 2, 3, 4, 5, -1} {
		all = append(all,
			api.Verb{Kind: kind},
			api.Verb{Kind: kind, Node: 3, At: 776, N: 8, Old: 5, New: 6, Words: []uint64{7, 8}, Key: 9, Boot: 10},
			api.Verb{Kind: kind, Node: minInt, At: maxInt, N: minInt, Old: top, New: top - 1, Words: []uint64{top}, Key: top, Boot: -1})
	}
	return all
}

// addresses fails the test unless Address returns the verb with that key, and with the node and the boot number of
// the member.
func addresses(t *testing.T, v api.View, m api.Member, open bool, key uint64) {
	t.Helper()
	for _, x := range verbs() {
		before, same := copied(v), x
		same.Words = slices.Clone(x.Words)
		want := api.Verb{Kind: x.Kind, Node: m.Node, At: x.At, N: x.N, Old: x.Old, New: x.New, Words: same.Words, Key: key, Boot: m.Boot}
		if got := view.Address(v, m, open, x); !reflect.DeepEqual(got, want) {
			t.Errorf("Address of %+v for %+v in %+v (open: %v): %+v; want %+v", x, m, v, open, got, want)
		}
		if !reflect.DeepEqual(x, same) || !equal(v, before) {
			t.Errorf("Address has changed %+v or %+v", v, x)
		}
	}
}

// Promise 10.3: the keys of all views, open and closed.
func TestAddress(t *testing.T) {
	for number := range 16 {
		v := of(number, full(1, 3), part(4, 31))
		for _, m := range v.Members {
			addresses(t, v, m, false, uint64(2*number))
			addresses(t, v, m, true, uint64(2*number+1))
		}
	}
}

// Promise 10.3: a view that has no key leaves the key 0; neither the view nor the member need be valid.
func TestAddressOfAnyView(t *testing.T) {
	for _, number := range append(far(), -2, -1, 16, 17) {
		for _, open := range []bool{false, true} {
			addresses(t, of(number, full(0, 1)), full(0, 1), open, 0)
		}
	}
	for _, m := range []api.Member{{}, full(9, 99), part(-1, -1), full(minInt, maxInt), part(maxInt, minInt)} {
		addresses(t, of(3), m, true, 7)
		addresses(t, of(3, full(0, 1)), m, false, 6)
		addresses(t, of(16), m, true, 0)
	}
}

// Rule R2: the words of the result are new memory.
func TestAddressMemory(t *testing.T) {
	x := api.Verb{Kind: 2, At: 776, Words: []uint64{7, 8, 9}}
	x.Words = x.Words[:2]
	got := view.Address(of(0, full(0, 1)), full(0, 1), true, x)
	got.Words[0] = 77
	_ = append(got.Words, 78)
	if !slices.Equal(x.Words[:3], []uint64{7, 8, 9}) {
		t.Errorf("the result shares memory with the verb: %v", x.Words[:3])
	}
}
