package word_test

import (
	"go/parser"
	"go/token"
	"path/filepath"
	"strconv"
	"strings"
	"testing"

	"bodega/api"
	"bodega/word"
)

const (
	top    = 1<<64 - 1
	maxInt = 1<<63 - 1
	minInt = -1 << 63
)

// edgeWords are words at and beside the borders of the fields of every format.
func edgeWords() []uint64 {
	words := []uint64{0xA5A5_5A5A_0FF0_C33C, 0x0123_4567_89AB_CDEF, 0x5555_5555_5555_5555, 0xAAAA_AAAA_AAAA_AAAA}
	for at := range 64 {
		one := uint64(1) << at
		words = append(words, one-1, one, one+1, top-one, one|one>>1)
	}
	return append(words, top-1, top)
}

// edgeInts are numbers at and beside the borders of the limits of every argument.
func edgeInts() []int {
	ints := []int{minInt, minInt + 1, -1 << 32, -256, -8, maxInt - 1, maxInt}
	for _, limit := range []int{0, 8, 64, 256, api.MaxClients, api.MaxViews, api.MaxInc, api.MaxRound, api.MaxSeq, api.MaxVersion, 1 << 31, 1 << 32} {
		for by := -3; by <= 3; by++ {
			ints = append(ints, limit+by)
		}
	}
	return ints
}

// isPacked fails the test unless a packing returned the wanted word and code.
func isPacked(t *testing.T, call string, got uint64, code api.Errno, want uint64, wantCode api.Errno) {
	t.Helper()
	if got != want || code != wantCode {
		t.Errorf("%s = %#x, %v; want %#x, %v", call, got, code, want, wantCode)
	}
}

// show writes a call for a message of a test.
func show(name string, args ...any) string {
	var parts []string
	for _, arg := range args {
		switch x := arg.(type) {
		case int:
			parts = append(parts, strconv.Itoa(x))
		case uint64:
			parts = append(parts, "0x"+strconv.FormatUint(x, 16))
		case bool:
			parts = append(parts, strconv.FormatBool(x))
		}
	}
	return name + "(" + strings.Join(parts, ", ") + ")"
}

// The examples of chapter 1.
func TestExamples(t *testing.T) {
	got, code := word.Header(1, 0)
	isPacked(t, "Header(1, 0)", got, code, 256, api.OK)
	got, code = word.Lock(256, 2)
	isPacked(t, "Lock(256, 2)", got, code, 259, api.OK)
	got, code = word.Next(259)
	isPacked(t, "Next(259)", got, code, 512, api.OK)
	got, code = word.Key(3, true)
	isPacked(t, "Key(3, true)", got, code, 7, api.OK)
	got, code = word.Mark(5)
	isPacked(t, "Mark(5)", got, code, 22, api.OK)
	got, code = word.Tag(1, 0)
	isPacked(t, "Tag(1, 0)", got, code, 257, api.OK)
	got, code = word.Ballot(1, 0)
	isPacked(t, "Ballot(1, 0)", got, code, 9, api.OK)
}

// packing is one format: what packs two numbers, and what takes the word apart again.
type packing struct {
	name  string
	pack  func(a, b int) (uint64, api.Errno)
	split func(w uint64) (a, b int, ok bool)
}

func packings() []packing {
	return []packing{
		{"header",
			func(a, b int) (uint64, api.Errno) { return word.Header(uint64(a), b) },
			func(w uint64) (int, int, bool) {
				version, owner := word.SplitHeader(w)
				return int(version), owner, true
			}},
		{"key",
			func(a, b int) (uint64, api.Errno) {
				if b != 0 && b != 1 {
					return 0, api.ErrArg
				}
				return word.Key(a, b == 1)
			},
			func(w uint64) (int, int, bool) {
				number, open := word.SplitKey(w)
				if open {
					return int(number), 1, true
				}
				return int(number), 0, true
			}},
		{"mark",
			func(a, b int) (uint64, api.Errno) {
				if b != 0 {
					return 0, api.ErrArg
				}
				return word.Mark(a)
			},
			func(w uint64) (int, int, bool) { seq, ok := word.SplitMark(w); return seq, 0, ok }},
		{"tag", word.Tag, word.SplitTag},
		{"lease", word.Lease, word.SplitLease},
		{"ballot", word.Ballot, word.SplitBallot},
	}
}

// Promise 1.6: a packed word identifies its parts, so no two pairs of parts have the same word.
func TestPackedWordsIdentifyTheirParts(t *testing.T) {
	ints := edgeInts()
	for n := range 600 {
		ints = append(ints, n)
	}
	for _, p := range packings() {
		from := map[uint64][2]int{}
		for _, a := range ints {
			for _, b := range ints {
				w, code := p.pack(a, b)
				if code != api.OK {
					continue
				}
				if other, ok := from[w]; ok && other != [2]int{a, b} {
					t.Fatalf("%s: %d, %d and %v are both packed as %#x", p.name, a, b, other, w)
				}
				from[w] = [2]int{a, b}
				if gotA, gotB, ok := p.split(w); !ok || gotA != a || gotB != b {
					t.Fatalf("%s: %#x is split into %d, %d, %v; want %d, %d", p.name, w, gotA, gotB, ok, a, b)
				}
			}
		}
		if len(from) < 30 {
			t.Errorf("%s: only %d words", p.name, len(from))
		}
	}
}

// Promise 1.6: what a split accepts is packed into the same word again, where the packing accepts the parts.
func TestSplitWordsArePackedAgain(t *testing.T) {
	words := edgeWords()
	for w := range uint64(1 << 15) {
		words = append(words, w)
	}
	for _, p := range packings() {
		for _, w := range words {
			a, b, ok := p.split(w)
			again, code := p.pack(a, b)
			if ok && code == api.OK && again != w {
				t.Errorf("%s: %#x is split into %d, %d, which are packed as %#x", p.name, w, a, b, again)
			}
			if !ok && (a != 0 || b != 0) {
				t.Errorf("%s: %#x is split into %d, %d beside false", p.name, w, a, b)
			}
		}
	}
}

// Package word uses package api only.
func TestImports(t *testing.T) {
	files, err := filepath.Glob("*.go")
	if err != nil || len(files) == 0 {
		t.Fatalf("no files of the package: %v", err)
	}
	for _, name := range files {
		if strings.HasSuffix(name, "_test.go") {
			continue
		}
		file, err := parser.ParseFile(token.NewFileSet(), name, nil, parser.ImportsOnly)
		if err != nil {
			t.Fatal(err)
		}
		for _, spec := range file.Imports {
			if path, _ := strconv.Unquote(spec.Path.Value); strings.HasPrefix(path, "bodega/") && path != "bodega/api" {
				t.Errorf("%s imports %s", name, path)
			}
		}
	}
}

// answers calls every function of the package with the given words and numbers.
func answers(w uint64, a, b int) []any {
	var all []any
	add := func(results ...any) { all = append(all, results...) }
	pack := func(v uint64, code api.Errno) { add(v, code) }
	pack(word.Field(w, a, b))
	pack(word.SetField(w, a, b, ^w))
	pack(word.Header(w, a))
	version, owner := word.SplitHeader(w)
	add(version, owner, word.Unlocked(w))
	pack(word.Lock(w, a))
	pack(word.Next(w))
	pack(word.Key(a, b%2 == 0))
	number, open := word.SplitKey(w)
	add(number, open)
	pack(word.Mark(a))
	pack(word.Tag(a, b))
	pack(word.Lease(a, b))
	pack(word.Ballot(a, b))
	pack(word.Consensus(uint64(a), uint64(b), w))
	promise, accepted, value := word.SplitConsensus(w)
	add(promise, accepted, value)
	for _, p := range packings() {
		x, y, ok := p.split(w)
		add(x, y, ok)
	}
	return all
}

// Rules R1 and R3: no arguments make a function panic, and the same arguments give the same results, whatever was
// called in between. Rule R4: beside an error the word is 0.
func TestRules(t *testing.T) {
	words, ints := edgeWords(), edgeInts()
	for i, a := range ints {
		for j, b := range ints {
			w := words[(i*len(ints)+j)%len(words)]
			first := answers(w, a, b)
			answers(^w, b, a)
			for k, x := range answers(w, a, b) {
				if x != first[k] {
					t.Fatalf("answer %d for %#x, %d, %d: first %v, then %v", k, w, a, b, first[k], x)
				}
				if code, ok := x.(api.Errno); ok && code != api.OK && first[k-1] != uint64(0) {
					t.Fatalf("answer %d for %#x, %d, %d: %v beside %v", k, w, a, b, first[k-1], code)
				}
			}
		}
	}
}
