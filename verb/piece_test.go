package verb_test

import (
	"slices"
	"testing"

	"bodega/api"
	"bodega/verb"
)

// Promise 4.2: the class near lines 0 to 3: a Read of the doors is of class Control, a change of them is not.
func TestClass(t *testing.T) {
	for _, v := range validVerbs() {
		last := slices.Max(touched(v.Kind, v.At, verb.Count(v)))
		want := verb.Keyed
		if last <= 2 || last == 3 && v.Kind == api.Read {
			want = verb.Control
		}
		if got := verb.Class(v); got != want {
			t.Errorf("Class(kind %d, address %d, %d words) = %d; want %d", v.Kind, v.At, verb.Count(v), got, want)
		}
	}
	if verb.Control != 1 || verb.Keyed != 2 {
		t.Errorf("the classes are %d and %d", verb.Control, verb.Keyed)
	}
}

// Promise 4.2: each border of lines 0 to 3, from the word before it to the word behind it.
func TestClassAtTheBorders(t *testing.T) {
	for _, x := range []struct {
		kind, at, count, want int
	}{
		{api.Read, 0, 1, verb.Control}, {api.Read, 0, 32, verb.Control}, {api.Read, 23, 1, verb.Control}, {api.Read, 23, 2, verb.Control},
		{api.Read, 24, 8, verb.Control}, {api.Read, 31, 1, verb.Control}, {api.Read, 32, 1, verb.Keyed}, {api.Read, 2047, 1, verb.Keyed},
		{api.Write, 0, 24, verb.Control}, {api.Write, 23, 1, verb.Control}, {api.Write, 24, 1, verb.Keyed}, {api.Write, 31, 2, verb.Keyed},
		{api.Cas, 0, 1, verb.Control}, {api.Cas, 23, 1, verb.Control}, {api.Cas, 24, 1, verb.Keyed}, {api.Cas, 31, 1, verb.Keyed},
		{api.Add, 0, 1, verb.Control}, {api.Add, 23, 1, verb.Control}, {api.Add, 24, 1, verb.Keyed}, {api.Add, 32, 1, verb.Keyed},
	} {
		if got := verb.Class(plain(x.kind, x.at, x.count)); got != x.want {
			t.Errorf("Class(kind %d, address %d, %d words) = %d; want %d", x.kind, x.at, x.count, got, x.want)
		}
	}
}

// partsOf returns the pieces that promise 4.2 asks for, word by word.
func partsOf(kind, at, count int) []verb.Piece {
	var l []verb.Piece
	for i, line := range touched(kind, at, count) {
		if i == 0 || line*8 == at+i {
			l = append(l, verb.Piece{At: at + i})
		}
		l[len(l)-1].N++
	}
	return l
}

// Promise 4.2: one piece for each line, in ascending order.
func TestPieces(t *testing.T) {
	for _, v := range validVerbs() {
		want := partsOf(v.Kind, v.At, verb.Count(v))
		if got := verb.Pieces(v); !slices.Equal(got, want) {
			t.Errorf("Pieces(kind %d, address %d, %d words) = %v; want %v", v.Kind, v.At, verb.Count(v), got, want)
		}
	}
}

// Promise 4.2: verbs that end or begin at the ends of lines, and the example of chapter 4.
func TestPiecesAtTheEndsOfLines(t *testing.T) {
	for _, x := range []struct {
		at, count int
		want      []verb.Piece
	}{
		{781, 10, []verb.Piece{{781, 3}, {784, 7}}},
		{784, 8, []verb.Piece{{784, 8}}},
		{784, 7, []verb.Piece{{784, 7}}},
		{785, 7, []verb.Piece{{785, 7}}},
		{785, 8, []verb.Piece{{785, 7}, {792, 1}}},
		{784, 9, []verb.Piece{{784, 8}, {792, 1}}},
		{791, 1, []verb.Piece{{791, 1}}},
		{791, 2, []verb.Piece{{791, 1}, {792, 1}}},
		{791, 9, []verb.Piece{{791, 1}, {792, 8}}},
		{791, 10, []verb.Piece{{791, 1}, {792, 8}, {800, 1}}},
		{784, 16, []verb.Piece{{784, 8}, {792, 8}}},
		{2040, 8, []verb.Piece{{2040, 8}}},
		{2039, 9, []verb.Piece{{2039, 1}, {2040, 8}}},
	} {
		for _, kind := range []int{api.Read, api.Write} {
			if got := verb.Pieces(plain(kind, x.at, x.count)); !slices.Equal(got, x.want) {
				t.Errorf("Pieces(kind %d, address %d, %d words) = %v; want %v", kind, x.at, x.count, got, x.want)
			}
		}
	}
}

// Promise 4.2: Cas and Add have one piece of one word at every address, whatever their unused fields are.
func TestPiecesOfOneWord(t *testing.T) {
	for at := range api.MaxLines * api.LineWords {
		for _, kind := range []int{api.Cas, api.Add} {
			v := api.Verb{Kind: kind, At: at, N: 30, Words: make([]uint64, 20), Old: 3, New: 4}
			if got := verb.Pieces(v); !slices.Equal(got, []verb.Piece{{at, 1}}) {
				t.Errorf("Pieces(kind %d, address %d) = %v", kind, at, got)
			}
		}
	}
}

// Promise 4.5: a write of which some pieces are executed has written its first words and no others.
func TestTornWrites(t *testing.T) {
	for _, v := range validVerbs() {
		if v.Kind != api.Write {
			continue
		}
		parts := verb.Pieces(v)
		for executed := range len(parts) + 1 {
			var got []uint64
			for _, p := range parts[:executed] {
				got = append(got, v.Words[p.At-v.At:p.At-v.At+p.N]...)
			}
			if !slices.Equal(got, v.Words[:len(got)]) || executed == len(parts) && len(got) != len(v.Words) {
				t.Errorf("address %d, %d words: %d pieces are the words %v", v.At, len(v.Words), executed, got)
			}
		}
	}
}

// Rule R2: each result is new memory.
func TestPiecesAreNew(t *testing.T) {
	v := plain(api.Read, 785, 20)
	first := verb.Pieces(v)
	clear(first)
	if got := verb.Pieces(v); !slices.Equal(got, partsOf(api.Read, 785, 20)) {
		t.Errorf("Pieces = %v after the last result was cleared", got)
	}
}
