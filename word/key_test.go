package word_test

import (
	"testing"

	"bodega/api"
	"bodega/word"
)

// Promise 1.3.
func TestKey(t *testing.T) {
	for _, number := range append(edgeInts(), 3, 7, 10) {
		for _, open := range []bool{false, true} {
			want, wantCode := 2*uint64(number), api.OK
			if open {
				want++
			}
			if number < 0 || number >= api.MaxViews {
				want, wantCode = 0, api.ErrRange
			}
			got, code := word.Key(number, open)
			isPacked(t, show("Key", number, open), got, code, want, wantCode)
		}
	}
}

// Promise 1.3: every word has a number, also words that are no key.
func TestSplitKey(t *testing.T) {
	for _, k := range edgeWords() {
		if number, open := word.SplitKey(k); number != k/2 || open != (k%2 != 0) {
			t.Errorf("SplitKey(%#x) = %#x, %v", k, number, open)
		}
	}
}
