package verb_test

import (
	"go/build"
	"slices"
	"strings"
	"testing"

	"bodega/api"
	"bodega/verb"
)

const (
	top    = 1<<64 - 1
	maxInt = 1<<63 - 1
	minInt = -1 << 63
)

// kinds are the kinds that exist.
func kinds() []int {
	return []int{api.Read, api.Write, api.Cas, api.Add}
}

// otherKinds are kinds that do not exist.
func otherKinds() []int {
	return []int{minInt, -1, 0, 5, 6, 1 << 32, 1<<32 + 1, maxInt}
}

// plain returns a verb of a kind on count words from address at on. Cas and Add have one word whatever count is.
func plain(kind, at, count int) api.Verb {
	v := api.Verb{Kind: kind, At: at}
	switch kind {
	case api.Read:
		v.N = count
	case api.Write:
		v.Words = make([]uint64, count)
		for i := range v.Words {
			v.Words[i] = uint64(i + 1)
		}
	}
	return v
}

// touched returns the line of each word of a plain verb, from its first word on.
func touched(kind, at, count int) []int {
	if kind == api.Cas || kind == api.Add {
		count = 1
	}
	var lines []int
	for i := range count {
		lines = append(lines, (at+i)/8)
	}
	return lines
}

// isMixed reports whether some of the lines are control lines of a kind and others are not.
func isMixed(kind int, lines []int) bool {
	limit := 2
	if kind == api.Read {
		limit = 3
	}
	control := 0
	for _, line := range lines {
		if line <= limit {
			control++
		}
	}
	return control != 0 && control != len(lines)
}

// validVerbs are valid verbs of every kind: all within the first lines of a node and within the last ones, and long
// ones that begin and end at and beside the borders of lines.
func validVerbs() []api.Verb {
	const size = api.MaxLines * api.LineWords
	var l []api.Verb
	add := func(kind, at, count int) {
		if at >= 0 && count >= 1 && at+count <= size && !isMixed(kind, touched(kind, at, count)) {
			l = append(l, plain(kind, at, count))
		}
	}
	for _, kind := range kinds() {
		for at := range 6 * api.LineWords {
			for count := 1; count <= 20; count++ {
				add(kind, at, count)
				add(kind, size-1-at, count)
			}
		}
		for at := 24; at <= 48; at++ {
			for by := range 9 {
				add(kind, at, 400+by)
			}
		}
		add(kind, 32, api.MaxRead*api.LineWords)
		add(kind, 39, (api.MaxRead-1)*api.LineWords+1)
		add(kind, size-api.MaxRead*api.LineWords, api.MaxRead*api.LineWords)
	}
	return l
}

// invalidVerbs are verbs that are not valid for any number of nodes and lines.
func invalidVerbs() []api.Verb {
	var l []api.Verb
	for _, kind := range append(otherKinds(), kinds()...) {
		for _, at := range []int{minInt, minInt + 7, -9, -8, -1, 2048, 1 << 32, 1 << 62, maxInt - 7, maxInt} {
			l = append(l, plain(kind, at, 1))
		}
	}
	for _, n := range []int{minInt, -8, -1, 0, 33, 1025, 1 << 31, 1 << 40, 1 << 61, maxInt} {
		l = append(l, api.Verb{Kind: api.Read, N: n}, api.Verb{Kind: api.Read, At: maxInt, N: n}, api.Verb{Kind: api.Read, At: minInt, N: n})
	}
	for _, kind := range otherKinds() {
		l = append(l, api.Verb{Kind: kind, At: 40, N: 1, Old: 1, New: 2, Words: []uint64{1}})
	}
	return append(l, api.Verb{Kind: api.Write}, api.Verb{Kind: api.Write, At: 40, Words: []uint64{}}, plain(api.Write, 0, 25))
}

// copied returns verbs that share no memory with l.
func copied(l []api.Verb) []api.Verb {
	l = slices.Clone(l)
	for i := range l {
		l[i].Words = slices.Clone(l[i].Words)
	}
	return l
}

// equal reports whether two verbs are equal in every field, whatever their kind.
func equal(a, b api.Verb) bool {
	return a.Kind == b.Kind && a.Node == b.Node && a.At == b.At && a.N == b.N && a.Old == b.Old && a.New == b.New &&
		slices.Equal(a.Words, b.Words) && a.Key == b.Key && a.Boot == b.Boot
}

// Rule R1: no function panics or runs on, also where the chapter leaves the result open. Rule R2: none changes a verb.
func TestAnyVerb(t *testing.T) {
	l := append(invalidVerbs(), validVerbs()...)
	before := copied(l)
	for i, v := range l {
		verb.Valid(v, api.MaxNodes, api.MaxLines)
		verb.Count(v)
		verb.Class(v)
		verb.Pieces(v)
		verb.Check(v, 1, 1, 1, 1)
		verb.Returns(v)
		verb.Fit([]api.Verb{v}, []api.Done{{}})
		if !verb.Same(v, v) || !verb.Same(v, before[i]) {
			t.Errorf("%+v is not the same as itself", v)
		}
	}
	if !verb.SameAll(l, before) || !slices.EqualFunc(l, before, equal) {
		t.Error("the verbs have changed")
	}
}

// Package verb uses package api alone, and what the language's rules allow.
func TestImports(t *testing.T) {
	folder, err := build.ImportDir(".", 0)
	if err != nil || len(folder.GoFiles) == 0 {
		t.Fatalf("the files %q: %v", folder.GoFiles, err)
	}
	for _, path := range folder.Imports {
		if strings.HasPrefix(path, "bodega/") && path != "bodega/api" {
			t.Errorf("the files %q import %q", folder.GoFiles, path)
		}
	}
}
