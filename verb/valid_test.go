package verb_test

import (
	"math/big"
	"testing"

	"bodega/api"
	"bodega/verb"
)

func isValid(t *testing.T, v api.Verb, nodes, lines int, want api.Errno) {
	t.Helper()
	if got := verb.Valid(v, nodes, lines); got != want {
		t.Errorf("Valid(kind %d, node %d, address %d, N %d, %d words; %d nodes, %d lines) = %v; want %v",
			v.Kind, v.Node, v.At, v.N, len(v.Words), nodes, lines, got, want)
	}
}

// wanted is Valid as promise 4.1 states it, word by word, with numbers that do not overflow.
func wanted(v api.Verb, nodes, lines int) api.Errno {
	var count int
	switch v.Kind {
	case api.Read:
		count = v.N
	case api.Write:
		count = len(v.Words)
	case api.Cas, api.Add:
		count = 1
	}
	if count < 1 {
		return api.ErrArg
	}
	if nodes < 1 || nodes > 5 || lines < 1 || lines > 256 || v.Node < 0 || v.Node >= nodes || v.At < 0 {
		return api.ErrRange
	}
	end := new(big.Int).Add(big.NewInt(int64(v.At)), big.NewInt(int64(count)))
	if end.Cmp(big.NewInt(int64(8*lines))) > 0 {
		return api.ErrRange
	}
	all := touched(v.Kind, v.At, count)
	different := map[int]bool{}
	for _, line := range all {
		different[line] = true
	}
	if len(different) > 128 || isMixed(v.Kind, all) {
		return api.ErrRange
	}
	return api.OK
}

// Promise 4.1.
func TestCount(t *testing.T) {
	for _, count := range []int{1, 2, 7, 8, 9, 100, 1024} {
		for kind, want := range map[int]int{api.Read: count, api.Write: count, api.Cas: 1, api.Add: 1} {
			if got := verb.Count(plain(kind, 40, count)); got != want {
				t.Errorf("Count(kind %d, %d words) = %d", kind, count, got)
			}
		}
	}
	// Fields that a kind does not use do not count.
	for kind, want := range map[int]int{api.Read: 3, api.Write: 2, api.Cas: 1, api.Add: 1} {
		if got := verb.Count(api.Verb{Kind: kind, At: 40, N: 3, Old: 5, New: 6, Words: []uint64{1, 2}}); got != want {
			t.Errorf("Count(kind %d) = %d; want %d", kind, got, want)
		}
	}
}

// Promise 4.1: every range within the first lines and beyond, on nodes of few lines.
func TestValidOnSmallNodes(t *testing.T) {
	for _, lines := range []int{1, 2, 3, 4, 5, 7} {
		for _, kind := range kinds() {
			for at := -2; at <= 8*lines+2; at++ {
				for count := 0; count <= 8*lines+2; count++ {
					v := plain(kind, at, count)
					isValid(t, v, 1, lines, wanted(v, 1, lines))
				}
			}
		}
	}
}

// Promise 4.1: verbs that lie in MaxRead lines, and in one more.
func TestValidOfLongVerbs(t *testing.T) {
	const most = api.MaxRead * api.LineWords
	for _, kind := range []int{api.Read, api.Write} {
		for at := 20; at <= 50; at++ {
			for count := most - 20; count <= most+10; count++ {
				v := plain(kind, at, count)
				isValid(t, v, 1, api.MaxLines, wanted(v, 1, api.MaxLines))
			}
		}
		isValid(t, plain(kind, 32, most), 1, 132, api.OK)
		isValid(t, plain(kind, 32, most), 1, 131, api.ErrRange)
		isValid(t, plain(kind, 33, most-1), 1, 132, api.OK)
		isValid(t, plain(kind, 33, most), 1, 133, api.ErrRange)
		isValid(t, plain(kind, 39, most-7), 1, 132, api.OK)
		isValid(t, plain(kind, 39, most-6), 1, 133, api.ErrRange)
		isValid(t, plain(kind, 1024, most), 1, 256, api.OK)
		isValid(t, plain(kind, 1023, most+1), 1, 256, api.ErrRange)
		isValid(t, plain(kind, 32, 2016), 1, 256, api.ErrRange)
	}
}

// Promise 4.1: the lines of class Control are not touched together with later ones; a Read has one more of them.
func TestValidAtTheBorderOfControl(t *testing.T) {
	for at := range 40 {
		for count := 1; at+count <= 48; count++ {
			want := api.OK
			if at < 24 && at+count > 24 {
				want = api.ErrRange
			}
			isValid(t, plain(api.Write, at, count), 3, 99, want)
			want = api.OK
			if at < 32 && at+count > 32 {
				want = api.ErrRange
			}
			isValid(t, plain(api.Read, at, count), 3, 99, want)
		}
		isValid(t, plain(api.Cas, at, 1), 3, 99, api.OK)
		isValid(t, plain(api.Add, at, 1), 3, 99, api.OK)
	}
}

// Promise 4.1: the numbers of nodes and of lines, and the node, at their limits, beyond them, and far away.
func TestValidOfNodesAndLines(t *testing.T) {
	ints := []int{minInt, -1 << 32, -1, 0, 1, 2, 4, 5, 6, 7, 8, 255, 256, 257, 258, 1 << 32, 1<<32 + 1, 1<<32 + 256, 1 << 60, 1 << 61, maxInt}
	for _, nodes := range ints {
		for _, lines := range ints {
			for _, node := range ints {
				for _, kind := range kinds() {
					v := plain(kind, 0, 1)
					v.Node = node
					isValid(t, v, nodes, lines, wanted(v, nodes, lines))
				}
			}
		}
	}
}

// Promise 4.1: addresses and counts at and beside the end of a node, and so great that their sum overflows.
func TestValidOfAddresses(t *testing.T) {
	ints := []int{minInt, minInt + 1, -1 << 60, -1 << 32, -9, -8, -1, 0, 1, 32, 33, 2046, 2047, 2048, 2049, 1 << 31, 1 << 32, 1 << 60,
		1 << 61, 1 << 62, maxInt - 2048, maxInt - 2047, maxInt - 1, maxInt}
	for _, at := range ints {
		for _, count := range ints {
			for _, lines := range []int{1, 4, 255, 256} {
				v := api.Verb{Kind: api.Read, At: at, N: count}
				isValid(t, v, 2, lines, wanted(v, 2, lines))
			}
		}
		for _, kind := range []int{api.Write, api.Cas, api.Add} {
			for _, count := range []int{1, 2, 9} {
				v := plain(kind, at, count)
				isValid(t, v, 2, 256, wanted(v, 2, 256))
			}
		}
	}
}

// Promise 4.1: the end of a node of every size.
func TestValidAtTheEndOfTheNode(t *testing.T) {
	for lines := 1; lines <= api.MaxLines; lines++ {
		for _, kind := range kinds() {
			isValid(t, plain(kind, 8*lines-1, 1), 1, lines, api.OK)
			isValid(t, plain(kind, 8*lines, 1), 1, lines, api.ErrRange)
		}
		for _, kind := range []int{api.Read, api.Write} {
			isValid(t, plain(kind, 8*lines-2, 2), 1, lines, api.OK)
			isValid(t, plain(kind, 8*lines-1, 2), 1, lines, api.ErrRange)
		}
	}
}

// Promise 4.1: ErrArg comes before every ErrRange.
func TestOrderOfErrors(t *testing.T) {
	bad := []api.Verb{{Kind: api.Read}, {Kind: api.Read, N: -1}, {Kind: api.Read, N: minInt}, {Kind: api.Read, Words: []uint64{1, 2}},
		{Kind: api.Write}, {Kind: api.Write, N: 1}, {Kind: api.Write, Words: []uint64{}}}
	for _, kind := range otherKinds() {
		bad = append(bad, api.Verb{Kind: kind}, api.Verb{Kind: kind, N: 1, Words: []uint64{1}})
	}
	for _, v := range bad {
		for _, node := range []int{0, -1, 1, 9} {
			for _, at := range []int{0, 23, -1, 8, maxInt, minInt} {
				v.Node, v.At = node, at
				isValid(t, v, 1, 1, api.ErrArg)
				isValid(t, v, 1, 256, api.ErrArg)
				isValid(t, v, 0, 1, api.ErrArg)
				isValid(t, v, 1, 0, api.ErrArg)
				isValid(t, v, 6, 257, api.ErrArg)
			}
		}
	}
}

// Promise 4.1: fields that a kind does not use make no verb invalid.
func TestValidIgnoresUnusedFields(t *testing.T) {
	long := make([]uint64, 3000)
	for _, n := range []int{minInt, -1, 0, 1, 3000, maxInt} {
		for _, v := range []api.Verb{
			{Kind: api.Write, N: n, Words: []uint64{1}, Old: top, New: top},
			{Kind: api.Cas, N: n}, {Kind: api.Cas, N: n, Words: long},
			{Kind: api.Add, N: n}, {Kind: api.Add, N: n, Words: long, Old: top},
			{Kind: api.Read, N: 1, Words: long, Old: top, New: top},
			{Kind: api.Read, N: 1, Key: top, Boot: n}, {Kind: api.Cas, Old: top, New: top, Key: top, Boot: n},
		} {
			for _, at := range []int{0, 31, 40, 2047} {
				v.At = at
				isValid(t, v, 1, 256, api.OK)
			}
		}
	}
}
