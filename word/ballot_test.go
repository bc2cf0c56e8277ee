package word_test

import (
	"testing"

	"bodega/api"
	"bodega/word"
)

// Promise 1.5: the check of the round comes first.
func TestBallot(t *testing.T) {
	for _, round := range append(edgeInts(), 7, 250) {
		for _, client := range edgeInts() {
			want, wantCode := uint64(round)*8+uint64(client)+1, api.OK
			switch {
			case round < 1 || round > api.MaxRound:
				want, wantCode = 0, api.ErrRange
			case client < 0 || client >= api.MaxClients:
				want, wantCode = 0, api.ErrArg
			}
			got, code := word.Ballot(round, client)
			isPacked(t, show("Ballot", round, client), got, code, want, wantCode)
		}
	}
}

// Promise 1.5: every number that fits a consensus word, and greater ones.
func TestSplitBallot(t *testing.T) {
	ballots := map[uint64][2]int{}
	for round := 1; round <= api.MaxRound; round++ {
		for client := range api.MaxClients {
			ballots[uint64(round)*8+uint64(client)+1] = [2]int{round, client}
		}
	}
	words := edgeWords()
	for b := range uint64(5000) {
		words = append(words, b, 1<<32+b, 1<<63+b)
	}
	for _, b := range words {
		want, wantOK := ballots[b]
		if round, client, ok := word.SplitBallot(b); round != want[0] || client != want[1] || ok != wantOK {
			t.Errorf("SplitBallot(%d) = %d, %d, %v; want %v, %v", b, round, client, ok, want, wantOK)
		}
	}
}

// Promise 1.5.
func TestConsensus(t *testing.T) {
	ballots := []uint64{0, 1, 9, 4006, 4094, 4095, 4096, 4097, 1 << 24, 1 << 63, top}
	values := []uint64{0, 1, 1 << 39, 1<<40 - 1, 1 << 40, 1<<40 + 1, 1 << 52, 1 << 63, top}
	for _, promise := range ballots {
		for _, accepted := range ballots {
			for _, value := range values {
				want, wantCode := (promise*4096+accepted)*(1<<40)+value, api.OK
				if promise >= 4096 || accepted >= 4096 || value >= 1<<40 {
					want, wantCode = 0, api.ErrRange
				}
				got, code := word.Consensus(promise, accepted, value)
				isPacked(t, show("Consensus", promise, accepted, value), got, code, want, wantCode)
			}
		}
	}
}

// Promise 1.5 and 1.6: every word is the consensus word of its three parts.
func TestSplitConsensus(t *testing.T) {
	for _, w := range edgeWords() {
		promise, accepted, value := word.SplitConsensus(w)
		if promise != w/(1<<52) || accepted != w/(1<<40)%4096 || value != w%(1<<40) {
			t.Errorf("SplitConsensus(%#x) = %d, %d, %d", w, promise, accepted, value)
		}
		again, code := word.Consensus(promise, accepted, value)
		isPacked(t, show("Consensus", promise, accepted, value), again, code, w, api.OK)
	}
}
