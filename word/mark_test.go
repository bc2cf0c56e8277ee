package word_test

import (
	"testing"

	"bodega/api"
	"bodega/word"
)

func isIncarnation(inc int) bool {
	return inc >= 1 && inc <= api.MaxInc && inc%2 == 1
}

// Promise 1.4.
func TestMark(t *testing.T) {
	for _, seq := range append(edgeInts(), 5, api.MaxSeq/2) {
		want, wantCode := uint64(seq)*4+2, api.OK
		if seq < 1 || seq >= api.MaxSeq {
			want, wantCode = 0, api.ErrRange
		}
		got, code := word.Mark(seq)
		isPacked(t, show("Mark", seq), got, code, want, wantCode)
	}
}

// Promise 1.4: marks, and words that are the mark of nothing (0 or MaxSeq and more, other low bits than 2).
func TestSplitMark(t *testing.T) {
	words := edgeWords()
	for by := range uint64(16) {
		words = append(words, by, 4*api.MaxSeq-8+by, 1<<63+by)
	}
	for _, m := range words {
		want, wantOK := int(m/4), true
		if m%4 != 2 || m/4 < 1 || m/4 >= api.MaxSeq {
			want, wantOK = 0, false
		}
		if seq, ok := word.SplitMark(m); seq != want || ok != wantOK {
			t.Errorf("SplitMark(%#x) = %d, %v; want %d, %v", m, seq, ok, want, wantOK)
		}
	}
}

// Promise 1.4: the check of the incarnation comes first.
func TestTag(t *testing.T) {
	for _, inc := range append(edgeInts(), 31, 32) {
		for _, client := range edgeInts() {
			want, wantCode := uint64(inc)*256+uint64(client)+1, api.OK
			switch {
			case !isIncarnation(inc):
				want, wantCode = 0, api.ErrRange
			case client < 0 || client >= api.MaxClients:
				want, wantCode = 0, api.ErrArg
			}
			got, code := word.Tag(inc, client)
			isPacked(t, show("Tag", inc, client), got, code, want, wantCode)
		}
	}
}

// Promise 1.4: every word with an incarnation up to 70, and some far away.
func TestSplitTag(t *testing.T) {
	tags := map[uint64][2]int{}
	for inc := 1; inc <= api.MaxInc; inc += 2 {
		for client := range api.MaxClients {
			tags[uint64(inc)*256+uint64(client)+1] = [2]int{inc, client}
		}
	}
	words := edgeWords()
	for w := range uint64(70 * 256) {
		words = append(words, w, 1<<40+w, 1<<63+w)
	}
	for _, w := range words {
		want, wantOK := tags[w]
		if inc, client, ok := word.SplitTag(w); inc != want[0] || client != want[1] || ok != wantOK {
			t.Errorf("SplitTag(%#x) = %d, %d, %v; want %v, %v", w, inc, client, ok, want, wantOK)
		}
	}
}

// Promise 1.4: the check of the incarnation comes first.
func TestLease(t *testing.T) {
	for _, inc := range append(edgeInts(), 31, 32) {
		for _, until := range append(edgeInts(), 1000) {
			want, wantCode := uint64(inc)<<32+uint64(until), api.OK
			switch {
			case !isIncarnation(inc):
				want, wantCode = 0, api.ErrRange
			case until < 0 || until >= 1<<32:
				want, wantCode = 0, api.ErrArg
			}
			got, code := word.Lease(inc, until)
			isPacked(t, show("Lease", inc, until), got, code, want, wantCode)
		}
	}
}

// Promise 1.4: every tick is one of a lease, but not every incarnation.
func TestSplitLease(t *testing.T) {
	incs := []uint64{1 << 8, 1<<8 + 1, 1 << 31, 1<<31 + 1, 1<<32 - 1}
	for inc := range uint64(70) {
		incs = append(incs, inc)
	}
	for _, inc := range incs {
		for _, until := range []uint64{0, 1, 59, 1 << 8, 1<<31 - 1, 1 << 31, 1<<32 - 1} {
			wantInc, wantUntil, wantOK := int(inc), int(until), true
			if !isIncarnation(int(inc)) {
				wantInc, wantUntil, wantOK = 0, 0, false
			}
			l := inc<<32 + until
			if gotInc, gotUntil, ok := word.SplitLease(l); gotInc != wantInc || gotUntil != wantUntil || ok != wantOK {
				t.Errorf("SplitLease(%#x) = %d, %d, %v; want %d, %d, %v", l, gotInc, gotUntil, ok, wantInc, wantUntil, wantOK)
			}
		}
	}
}
