package fabric_test

import (
	"bytes"
	"slices"
	"testing"

	"bodega/api"
	"bodega/fabric"
)

const (
	top     = 1<<64 - 1
	keyWord = 0
	boot    = 1
)

// after returns a fabric of usual after something has been done.
func after(t *testing.T, done func(f *fabric.Fabric)) *fabric.Fabric {
	t.Helper()
	f := usual(t)
	done(f)
	return f
}

// posted returns a fabric of usual in which compute node 1 has posted a batch of which these pieces are executed.
func posted(t *testing.T, l []api.Verb, pieces ...fabric.Choice) *fabric.Fabric {
	t.Helper()
	return after(t, func(f *fabric.Fabric) {
		post(t, f, 1, l...)
		steps(t, f, pieces...)
	})
}

// numbered returns fabrics of different numbers of nodes and lines, and new ones of which one memory node differs.
func numbered(t *testing.T) []*fabric.Fabric {
	t.Helper()
	var l []*fabric.Fabric
	for _, x := range [][3]int{{3, 3, 8}, {2, 3, 8}, {4, 3, 8}, {3, 2, 8}, {3, 4, 8}, {3, 3, 7}, {3, 3, 9}, {1, 6, 1}, {5, 1, 1}, {1, 1, 256}, {1, 1, 255}, {3, 3, 16}, {3, 3, 1}} {
		l = append(l, made(t, x[0], x[1], x[2]))
	}
	for node := range 3 {
		for _, at := range []int{keyWord, boot, 24, 32, 63} {
			for _, word := range []uint64{1, 256, 1 << 63, top} {
				l = append(l, after(t, func(f *fabric.Fabric) { f.Node(node).Write(at, []uint64{word}) }))
			}
		}
		l = append(l, after(t, func(f *fabric.Fabric) { f.Node(node).Fail() }))
		l = append(l, after(t, func(f *fabric.Fabric) { f.Node(node).Write(32, []uint64{1}); f.Node(node).Fail() }))
	}
	return l
}

// named returns fabrics of which one compute node is dead or has another incarnation.
func named(t *testing.T) []*fabric.Fabric {
	t.Helper()
	var l []*fabric.Fabric
	for client := range 3 {
		l = append(l, after(t, func(f *fabric.Fabric) { die(t, f, client) }))
		for _, inc := range []int{0, 2, 3, 59} {
			l = append(l, after(t, func(f *fabric.Fabric) { f.Rename(client, inc) }))
			l = append(l, after(t, func(f *fabric.Fabric) { f.Rename(client, inc); die(t, f, client) }))
		}
	}
	// The numbers 1 and 2 in another order.
	l = append(l, after(t, func(f *fabric.Fabric) { f.Rename(0, 3); f.Rename(1, 2) }))
	return append(l, after(t, func(f *fabric.Fabric) { f.Rename(0, 2); f.Rename(1, 3) }))
}

// begun returns fabrics with a batch of which nothing has been executed.
func begun(t *testing.T) []*fabric.Fabric {
	t.Helper()
	var l []*fabric.Fabric
	for client := range 3 {
		for node := range 3 {
			l = append(l, after(t, func(f *fabric.Fabric) { post(t, f, client, add(node, 40, 1)) }))
			l = append(l, after(t, func(f *fabric.Fabric) { post(t, f, client, add(node, 40, 1), add(node, 40, 1)) }))
			l = append(l, after(t, func(f *fabric.Fabric) { post(t, f, client, add(node, 40, 1)); f.Die(client) }))
			l = append(l, after(t, func(f *fabric.Fabric) { post(t, f, client, add(node, 40, 1)); f.Die(client); f.Restart(client, 1) }))
			l = append(l, after(t, func(f *fabric.Fabric) { post(t, f, client, add(node, 40, 1)); f.Die(client); f.Restart(client, 3) }))
		}
	}
	for _, v := range []api.Verb{reads(0, 40, 1), reads(0, 40, 2), reads(0, 41, 1), writes(0, 40, 1), writes(0, 40, 1, 2), cas(0, 40, 1, 0), cas(0, 40, 0, 1), add(0, 40, 2),
		{Kind: api.Add, At: 40, New: 1, Key: 1}, {Kind: api.Add, At: 40, New: 1, Boot: 1}} {
		l = append(l, posted(t, []api.Verb{v}), posted(t, []api.Verb{v, add(0, 40, 1)}), posted(t, []api.Verb{add(0, 40, 1), v}), posted(t, []api.Verb{v, add(1, 40, 1)}))
	}
	return l
}

// answered returns fabrics with a batch of which some verbs have completed. Their memory nodes are as new.
func answered(t *testing.T) []*fabric.Fabric {
	t.Helper()
	a, b, c := reads(0, 40, 1), reads(1, 40, 1), reads(2, 40, 1)
	first, second, third := live(1, 0), live(1, 1), live(1, 2)
	none := api.Verb{Kind: api.Add, At: 40, Key: 1}
	l := []*fabric.Fabric{
		posted(t, []api.Verb{a}, first), posted(t, []api.Verb{a, a}, first), posted(t, []api.Verb{a, a}, first, first),
		// One of two, one of three, two of three: the pairs that are left are the same.
		posted(t, []api.Verb{a, b}, first), posted(t, []api.Verb{b, a}, first), posted(t, []api.Verb{a, b, c}, first), posted(t, []api.Verb{b, a, c}, first),
		posted(t, []api.Verb{b, c, a}, first), posted(t, []api.Verb{a, b, c}, first, second), posted(t, []api.Verb{a, c, b}, first, second), posted(t, []api.Verb{c, a, b}, first, second),
		posted(t, []api.Verb{a, b, c}, first, second, third),
		// The completions differ in their words, in the number of their words, and in their codes.
		posted(t, []api.Verb{reads(0, 40, 2)}, first), posted(t, []api.Verb{reads(0, 40, 3)}, first), posted(t, []api.Verb{writes(0, 40, 0)}, first),
		posted(t, []api.Verb{none}, first), posted(t, []api.Verb{none, a}, first, first), posted(t, []api.Verb{a, none}, first, first),
	}
	// A completion that is all 0 is another thing than none.
	x, y := writes(0, 40, 0), writes(1, 40, 0)
	l = append(l, posted(t, []api.Verb{x, y}, first), posted(t, []api.Verb{y, x}, first), posted(t, []api.Verb{x, y, c}, first), posted(t, []api.Verb{y, x, c}, first),
		posted(t, []api.Verb{y, c, x}, first), posted(t, []api.Verb{y, c, x}), posted(t, []api.Verb{y, c}))
	for _, word := range []uint64{1, 2, 256, 1 << 63, top} {
		l = append(l, lent(t, []uint64{word}, a), lent(t, []uint64{word, 0}, reads(0, 40, 2)), lent(t, []uint64{0, word}, reads(0, 40, 2)))
	}
	// The same words in the same order, in completions of other lengths.
	l = append(l, lent(t, []uint64{1, 2, 3}, reads(0, 40, 1), reads(0, 41, 2)), lent(t, []uint64{1, 2, 3}, reads(0, 40, 2), reads(0, 42, 1)),
		lent(t, []uint64{7, 1, 0, 9}, reads(0, 40, 1), reads(0, 41, 3)), lent(t, []uint64{7, 1, 0, 9}, reads(0, 40, 3), reads(0, 43, 1)))
	return append(l, after(t, func(f *fabric.Fabric) {
		post(t, f, 1, a)
		f.Node(0).Fail()
		steps(t, f, first)
		f.Node(0).Back()
		f.Node(0).Write(boot, []uint64{0})
	}))
}

// lent returns a fabric whose compute node 1 has executed a batch when memory node 0 had these words from word 40 on;
// now it is as new.
func lent(t *testing.T, words []uint64, l ...api.Verb) *fabric.Fabric {
	t.Helper()
	return after(t, func(f *fabric.Fabric) {
		f.Node(0).Write(40, words)
		post(t, f, 1, l...)
		finish(t, f)
		f.Node(0).Write(40, make([]uint64, len(words)))
	})
}

// torn returns fabrics with a live pair, or an orphan, that is in the middle of a verb.
func torn(t *testing.T) []*fabric.Fabric {
	t.Helper()
	var l []*fabric.Fabric
	for executed := range 3 {
		for _, v := range []api.Verb{reads(0, 46, 11), writes(0, 46, make([]uint64, 11)...)} {
			f := posted(t, []api.Verb{v}, times(executed, live(1, 0))...)
			l = append(l, f, f.Copy())
			die(t, l[len(l)-1], 1)
		}
	}
	return append(l, after(t, func(f *fabric.Fabric) {
		f.Node(0).Write(46, []uint64{1})
		post(t, f, 1, reads(0, 46, 11))
		steps(t, f, live(1, 0))
		f.Node(0).Write(46, []uint64{0})
	}))
}

// left returns fabrics with several orphans.
func left(t *testing.T) []*fabric.Fabric {
	t.Helper()
	var l []*fabric.Fabric
	for _, order := range [][]int{{0, 1, 2}, {0, 2, 1}, {1, 0, 2}, {1, 2, 0}, {2, 0, 1}, {2, 1, 0}} {
		f := usual(t)
		for _, client := range order {
			post(t, f, client, add(0, 40, 1), add(1, 40, uint64(client+1)))
			die(t, f, client)
		}
		l = append(l, f)
		for i := range 6 {
			g, h := f.Copy(), f.Copy()
			g.DropOrphan(i)
			steps(t, h, orphan(i))
			l = append(l, g, h)
		}
	}
	return l
}

// Promise 6.5: fabrics that differ in one thing have other bytes.
func TestEncodeTellsStatesApart(t *testing.T) {
	l := slices.Concat(numbered(t), named(t), begun(t), answered(t), torn(t), left(t))
	seen := map[string]int{}
	for i, f := range l {
		code := string(f.Encode())
		if j, ok := seen[code]; ok {
			t.Errorf("fabrics %d and %d have the same bytes: choices %+v and %+v", j, i, l[j].Choices(), f.Choices())
		}
		seen[code] = i
	}
}

// Promise 6.5: the number of lines is that of the fabric, also if a memory node has been replaced by one of another size.
func TestEncodeTellsLinesApart(t *testing.T) {
	f, g := made(t, 1, 1, 8), made(t, 1, 1, 9)
	*f.Node(0) = *g.Node(0).Copy()
	if bytes.Equal(f.Encode(), g.Encode()) {
		t.Error("the same bytes")
	}
}

// Promise 6.5: fabrics that are made in the same way have the same bytes, and so have their copies. Encode changes
// nothing, and its bytes are new (rule R2).
func TestEncodeOfTheSameState(t *testing.T) {
	made := func() []*fabric.Fabric {
		return slices.Concat(numbered(t), named(t), begun(t), answered(t), torn(t), left(t), []*fabric.Fabric{mixed(t), orphaned(t)})
	}
	same := made()
	for i, f := range made() {
		want := f.Encode()
		clear(append(f.Encode(), 1))
		for _, g := range []*fabric.Fabric{f, f.Copy(), same[i], same[i].Copy()} {
			if !bytes.Equal(g.Encode(), want) {
				t.Errorf("fabric %d: other bytes", i)
			}
		}
	}
}

// Promise 6.5: how a fabric has come into its state does not matter, nor do Trips and Posted.
func TestEncodeForgetsThePast(t *testing.T) {
	f := usual(t)
	want := f.Encode()
	alike := func(what string) {
		t.Helper()
		if !bytes.Equal(f.Encode(), want) {
			t.Errorf("%s: other bytes", what)
		}
	}
	post(t, f, 0, reads(0, 40, 20), reads(1, 40, 1))
	finish(t, f)
	f.Take(0)
	alike("after a batch")
	post(t, f, 1, add(0, 40, 1), cas(1, 40, 0, 2))
	finish(t, f)
	f.Take(1)
	f.Node(0).Write(40, []uint64{0})
	f.Node(1).Write(40, []uint64{0})
	alike("after changes of the words and back")
	die(t, f, 2)
	restart(t, f, 2, 1)
	alike("after a death without pending verbs")
	f.Rename(2, 7)
	f.Rename(2, 1)
	alike("after other names")
	post(t, f, 2, reads(0, 40, 20), reads(2, 40, 9))
	steps(t, f, live(2, 0))
	die(t, f, 2)
	restart(t, f, 2, 1)
	steps(t, f, times(3, orphan(0))...)
	f.DropOrphan(0)
	alike("after orphans")
	f.Node(1).Fail()
	f.Node(1).Back()
	f.Node(1).Write(boot, []uint64{0})
	alike("after a failure of a memory node")
	f.Post(0, nil)
	f.Restart(0, 9)
	f.Rename(0, 60)
	alike("after errors")
	if f.Trips(0) != 1 || f.Posted(0) != 2 {
		t.Errorf("%d batches, %d verbs", f.Trips(0), f.Posted(0))
	}
}

// Promise 6.5: of a verb that has completed only its place and its completion count.
func TestEncodeForgetsCompletedVerbs(t *testing.T) {
	l := [][]api.Verb{{reads(0, 40, 1), writes(0, 40, 0)}, {add(0, 40, 0), writes(0, 48, 0)}, {cas(0, 41, 1, 2), writes(0, 8, 0, 0)}, {reads(1, 40, 1), writes(2, 40, 0)}}
	var want []byte
	for i, verbs := range l {
		f := posted(t, append(verbs, add(1, 40, 1)), live(1, verbs[0].Node), live(1, verbs[1].Node))
		if i == 0 {
			want = f.Encode()
		}
		if got := f.Encode(); !bytes.Equal(got, want) {
			t.Errorf("%+v: other bytes", verbs)
		}
	}
}

// Promise 6.5: of a batch only the completions belong to the state, and what is pending only as the pairs have it: the
// fields that a verb does not use do not, nor do the places of verbs none of which has completed.
func TestEncodeOfPendingVerbs(t *testing.T) {
	a, b := add(0, 40, 1), reads(1, 40, 1)
	want := posted(t, []api.Verb{a, b}).Encode()
	if !bytes.Equal(posted(t, []api.Verb{b, a}).Encode(), want) {
		t.Error("other bytes for the same pairs")
	}
	a.Old, a.N, a.Words = 5, 6, counted(7)
	b.Old, b.New, b.Words = 8, 9, counted(10)
	if !bytes.Equal(posted(t, []api.Verb{a, b}).Encode(), want) {
		t.Error("other bytes for other unused fields")
	}
}
