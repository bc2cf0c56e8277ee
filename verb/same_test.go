package verb_test

import (
	"slices"
	"testing"

	"bodega/api"
	"bodega/verb"
)

// changes are what makes another verb of a verb, by field. A field has several where one alone could be missed.
func changes() map[string][]func(*api.Verb) {
	return map[string][]func(*api.Verb){
		"Kind": {func(v *api.Verb) { v.Kind++ }, func(v *api.Verb) { v.Kind = 9 }},
		"Node": {func(v *api.Verb) { v.Node++ }, func(v *api.Verb) { v.Node = -1 }},
		"At":   {func(v *api.Verb) { v.At++ }, func(v *api.Verb) { v.At += 1 << 32 }},
		"Key":  {func(v *api.Verb) { v.Key++ }, func(v *api.Verb) { v.Key ^= 1 << 63 }},
		"Boot": {func(v *api.Verb) { v.Boot++ }, func(v *api.Verb) { v.Boot = -v.Boot }},
		"N":    {func(v *api.Verb) { v.N++ }, func(v *api.Verb) { v.N += 1 << 32 }},
		"Old":  {func(v *api.Verb) { v.Old++ }, func(v *api.Verb) { v.Old ^= 1 << 63 }},
		"New":  {func(v *api.Verb) { v.New++ }, func(v *api.Verb) { v.New ^= 1 << 63 }},
		"Words": {
			func(v *api.Verb) { v.Words = nil },
			func(v *api.Verb) { v.Words = []uint64{6, 7} },
			func(v *api.Verb) { v.Words = []uint64{6, 7, 8, 9} },
			func(v *api.Verb) { v.Words = []uint64{6, 7, 8, 0} },
			func(v *api.Verb) { v.Words = []uint64{5, 7, 8} },
			func(v *api.Verb) { v.Words = []uint64{6, 7, 8 ^ 1<<63} },
			func(v *api.Verb) { v.Words = []uint64{8, 7, 6} },
		},
	}
}

// uses reports whether a kind uses a field. A kind that does not exist is compared by all fields.
func uses(kind int, field string) bool {
	used := map[int][]string{api.Read: {"N"}, api.Write: {"Words"}, api.Cas: {"Old", "New"}, api.Add: {"New"}}
	fields, exists := used[kind]
	return !exists || slices.Contains(fields, field) || slices.Contains([]string{"Kind", "Node", "At", "Key", "Boot"}, field)
}

func full(kind int) api.Verb {
	return api.Verb{Kind: kind, Node: 1, At: 40, N: 3, Old: 4, New: 5, Words: []uint64{6, 7, 8}, Key: 9, Boot: 10}
}

// Promise 4.4: each field of each kind by itself, in both directions.
func TestSame(t *testing.T) {
	for _, kind := range append(otherKinds(), kinds()...) {
		v := full(kind)
		if !verb.Same(v, full(kind)) {
			t.Errorf("kind %d: a verb is not the same as its copy", kind)
		}
		for field, all := range changes() {
			for i, change := range all {
				other := full(kind)
				change(&other)
				want := !uses(kind, field)
				if got, back := verb.Same(v, other), verb.Same(other, v); got != want || back != want {
					t.Errorf("kind %d, change %d of %s: Same = %v, and %v the other way round; want %v", kind, i, field, got, back, want)
				}
			}
		}
	}
}

// Promise 4.4: all fields that a kind does not use are ignored together. Rule R2: no words are empty words.
func TestSameIgnoresUnusedFields(t *testing.T) {
	for _, kind := range kinds() {
		v, other := full(kind), full(kind)
		for field, all := range changes() {
			if !uses(kind, field) {
				all[0](&other)
			}
		}
		if !verb.Same(v, other) || !verb.SameAll([]api.Verb{v}, []api.Verb{other}) {
			t.Errorf("kind %d: %+v and %+v differ", kind, v, other)
		}
	}
	for _, kind := range append(otherKinds(), kinds()...) {
		v, other := full(kind), full(kind)
		v.Words, other.Words = nil, []uint64{}
		if !verb.Same(v, other) || !verb.Same(other, v) {
			t.Errorf("kind %d: nil and empty words differ", kind)
		}
	}
	if !verb.Same(api.Verb{}, api.Verb{}) {
		t.Error("two zero verbs differ")
	}
}

// Promise 4.4: lists of the same verbs in the same order.
func TestSameAll(t *testing.T) {
	read, write, cas := full(api.Read), full(api.Write), full(api.Cas)
	otherRead := read
	otherRead.N++
	unusedRead := read
	unusedRead.Old++
	for _, x := range []struct {
		a, b []api.Verb
		want bool
	}{
		{nil, nil, true}, {nil, []api.Verb{}, true}, {nil, []api.Verb{{}}, false}, {nil, []api.Verb{read}, false},
		{[]api.Verb{read}, []api.Verb{read}, true}, {[]api.Verb{read}, []api.Verb{unusedRead}, true}, {[]api.Verb{read}, []api.Verb{otherRead}, false},
		{[]api.Verb{read, write, cas}, []api.Verb{read, write, cas}, true}, {[]api.Verb{read, write}, []api.Verb{write, read}, false},
		{[]api.Verb{read, write, cas}, []api.Verb{read, write}, false}, {[]api.Verb{read, write, cas}, []api.Verb{write, cas}, false},
		{[]api.Verb{read, read}, []api.Verb{read}, false}, {[]api.Verb{write, cas, read}, []api.Verb{write, cas, otherRead}, false},
		{[]api.Verb{write, read, cas}, []api.Verb{write, otherRead, cas}, false}, {[]api.Verb{read, {}}, []api.Verb{read}, false},
	} {
		if got, back := verb.SameAll(x.a, x.b), verb.SameAll(x.b, x.a); got != x.want || back != x.want {
			t.Errorf("SameAll(%+v, %+v) = %v, and %v the other way round; want %v", x.a, x.b, got, back, x.want)
		}
	}
}
