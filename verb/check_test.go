package verb_test

import (
	"testing"

	"bodega/api"
	"bodega/verb"
)

// checked is Check as promise 4.3 states it; the class is found from the verb's first line.
func checked(v api.Verb, inc int, door, key, boot uint64) api.Errno {
	line := v.At / 8
	if v.Kind == api.Read && line <= 3 {
		return api.OK
	}
	if inc < 0 || uint64(inc) < door {
		return api.ErrRefused
	}
	if line <= 2 {
		return api.OK
	}
	if v.Boot < 0 || uint64(v.Boot) != boot {
		return api.ErrRefused
	}
	if v.Key != key {
		return api.ErrRefused
	}
	return api.OK
}

// checkedVerbs are one verb of each kind in each of the first lines, and in the heap.
func checkedVerbs() []api.Verb {
	var l []api.Verb
	for _, kind := range kinds() {
		for _, at := range []int{0, 7, 8, 16, 23, 24, 31, 32, 39, 40, 768, 2047} {
			l = append(l, plain(kind, at, 1))
		}
	}
	return append(l, plain(api.Read, 0, 32), plain(api.Read, 6, 26), plain(api.Write, 0, 24), plain(api.Write, 30, 9), plain(api.Read, 32, 50))
}

// Promise 4.3: every verb with every combination of what the node compares, at and beside equality.
func TestCheck(t *testing.T) {
	words := []uint64{0, 1, 2, 3, 1<<63 - 1, 1 << 63, top - 1, top}
	ints := []int{minInt, -2, -1, 0, 1, 2, 3, maxInt}
	for _, v := range checkedVerbs() {
		for _, inc := range ints {
			for _, door := range words {
				isChecked(t, v, inc, door, v.Key, uint64(v.Boot))
				isChecked(t, v, inc, door, v.Key+1, uint64(v.Boot))
				isChecked(t, v, inc, door, v.Key, uint64(v.Boot)+1)
			}
		}
		for _, boot := range ints {
			for _, door := range []uint64{0, 5, 6} {
				for _, nodeBoot := range append(words, uint64(boot)) {
					v.Key, v.Boot = 7, boot
					isChecked(t, v, 5, door, 7, nodeBoot)
					isChecked(t, v, 5, door, 6, nodeBoot)
				}
			}
		}
		for _, key := range words {
			for _, nodeKey := range words {
				v.Key, v.Boot = key, 2
				isChecked(t, v, 5, 5, nodeKey, 2)
			}
		}
	}
}

func isChecked(t *testing.T, v api.Verb, inc int, door, key, boot uint64) {
	t.Helper()
	if got, want := verb.Check(v, inc, door, key, boot), checked(v, inc, door, key, boot); got != want {
		t.Errorf("Check(kind %d, address %d, key %d, boot %d; incarnation %d, door %d, key %d, boot %d) = %v; want %v",
			v.Kind, v.At, v.Key, v.Boot, inc, door, key, boot, got, want)
	}
}

// Promise 4.3: the order of the checks. Each row fails the checks that come later.
func TestOrderOfChecks(t *testing.T) {
	for _, x := range []struct {
		name            string
		v               api.Verb
		inc             int
		door, key, boot uint64
		want            api.Errno
	}{
		{"a Read of class Control passes a closed door", api.Verb{Kind: api.Read, At: 0, N: 32}, 0, 1, 9, 9, api.OK},
		{"a Read of the doors too", api.Verb{Kind: api.Read, At: 24, N: 8}, -1, top, 9, 9, api.OK},
		{"another verb of class Control needs the door", api.Verb{Kind: api.Cas, At: 0}, 1, 3, 0, 0, api.ErrRefused},
		{"and nothing else", api.Verb{Kind: api.Cas, At: 0, Key: 1, Boot: 1}, 3, 3, 0, 0, api.OK},
		{"a Write of class Control", api.Verb{Kind: api.Write, At: 16, Words: make([]uint64, 8)}, 4, 3, 9, 9, api.OK},
		{"an Add of a door is of class Keyed", api.Verb{Kind: api.Add, At: 24}, 3, 3, 9, 0, api.ErrRefused},
		{"a verb of class Keyed needs the door", api.Verb{Kind: api.Read, At: 32, N: 1}, 1, 3, 0, 0, api.ErrRefused},
		{"and the boot number", api.Verb{Kind: api.Read, At: 32, N: 1}, 3, 3, 0, 1, api.ErrRefused},
		{"and the key", api.Verb{Kind: api.Read, At: 32, N: 1}, 3, 3, 1, 0, api.ErrRefused},
		{"and passes with all three", api.Verb{Kind: api.Read, At: 32, N: 1, Key: 1, Boot: 2}, 3, 3, 1, 2, api.OK},
		{"also with a greater incarnation", api.Verb{Kind: api.Write, At: 24, Words: []uint64{1}, Key: 1, Boot: 2}, 59, 3, 1, 2, api.OK},
		{"a greater key is another key", api.Verb{Kind: api.Read, At: 32, N: 1, Key: 2, Boot: 2}, 3, 3, 1, 2, api.ErrRefused},
		{"a greater boot number is another one", api.Verb{Kind: api.Read, At: 32, N: 1, Key: 1, Boot: 3}, 3, 3, 1, 2, api.ErrRefused},
		{"no boot number is negative", api.Verb{Kind: api.Read, At: 32, N: 1, Key: 1, Boot: -1}, 3, 3, 1, top, api.ErrRefused},
		{"no incarnation below 0 passes a door", api.Verb{Kind: api.Cas, At: 0}, -1, 0, 0, 0, api.ErrRefused},
		{"a door above all incarnations", api.Verb{Kind: api.Cas, At: 0}, maxInt, 1 << 63, 0, 0, api.ErrRefused},
		{"a door of 0 is open", api.Verb{Kind: api.Cas, At: 0}, 0, 0, 0, 0, api.OK},
	} {
		if got := verb.Check(x.v, x.inc, x.door, x.key, x.boot); got != x.want {
			t.Errorf("%s: %v; want %v", x.name, got, x.want)
		}
	}
}
