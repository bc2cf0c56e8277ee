package verb

import (
	"testing"

	"bodega/api"
)

// Whoever ranges over the pieces may stop at any of them.
func TestPiecesStop(t *testing.T) {
	v := api.Verb{Kind: api.Read, At: 785, N: 20}
	for stop, want := range Pieces(v) {
		var last Piece
		count := 0
		for p := range pieces(v) {
			last = p
			if count == stop {
				break
			}
			count++
		}
		if count != stop || last != want {
			t.Errorf("stopped at piece %d: %v; want %v", count, last, want)
		}
	}
}
