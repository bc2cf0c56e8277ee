// Package word packs small integers into 64-bit words and takes them apart again (chapter 1).
package word

import (
	"cmp"

	"bodega/api"
)

const (
	wordBits   = 64
	ownerBits  = 8  // of a header and of a tag
	markBits   = 2  // below the sequence number of a mark
	markEnd    = 2  // what these bits are in a mark
	untilBits  = 32 // of a lease
	clientBits = 3  // of a ballot
	ballotBits = 12 // of each of the two ballots of a consensus word
	valueBits  = 40 // of a consensus word
)

// within reports whether v is from least to most.
func within[T cmp.Ordered](v, least, most T) bool {
	return least <= v && v <= most
}

// low returns a word whose lowest n bits are set, for n from 0 to wordBits.
func low(n int) uint64 {
	return 1<<n - 1
}

func isClient(client int) bool {
	return within(client, 0, api.MaxClients-1)
}

func isIncarnation(inc int) bool {
	return within(inc, 1, api.MaxInc) && inc%2 == 1
}

func isField(at, n int) bool {
	return within(n, 1, wordBits) && within(at, 0, wordBits-n)
}

// Field returns the n bits of w from bit at on.
func Field(w uint64, at, n int) (uint64, api.Errno) {
	if !isField(at, n) {
		return 0, api.ErrArg
	}
	return w >> at & low(n), api.OK
}

// SetField returns w with the n bits from bit at on replaced by v.
func SetField(w uint64, at, n int, v uint64) (uint64, api.Errno) {
	if !isField(at, n) {
		return 0, api.ErrArg
	}
	if v > low(n) {
		return 0, api.ErrRange
	}
	return w&^(low(n)<<at) | v<<at, api.OK
}

// Header returns the header of a page; owner is 0 (nobody) or a compute node + 1.
func Header(version uint64, owner int) (uint64, api.Errno) {
	if !within(version, 1, api.MaxVersion-1) {
		return 0, api.ErrRange
	}
	if !within(owner, 0, api.MaxClients) {
		return 0, api.ErrArg
	}
	return version<<ownerBits | uint64(owner), api.OK
}

// SplitHeader returns the version and the owner of any word, also of one that Header never returns.
func SplitHeader(h uint64) (version uint64, owner int) {
	return h >> ownerBits, int(h & low(ownerBits))
}

// Unlocked reports whether the header h has no owner.
func Unlocked(h uint64) bool {
	_, owner := SplitHeader(h)
	return owner == 0
}

// Lock returns the unlocked header h with client as its owner. It accepts every version, as SplitHeader does: only
// Header and Next make new ones.
func Lock(h uint64, client int) (uint64, api.Errno) {
	if !isClient(client) {
		return 0, api.ErrArg
	}
	if !Unlocked(h) {
		return 0, api.ErrBusy
	}
	return h | uint64(client+1), api.OK
}

// Next returns the unlocked header of the version after that of h.
func Next(h uint64) (uint64, api.Errno) {
	version, _ := SplitHeader(h)
	// Header would accept the successor of version 0, which is no version of a page.
	if version == 0 {
		return 0, api.ErrRange
	}
	return Header(version+1, 0)
}

// Key returns the view key of a view.
func Key(number int, open bool) (uint64, api.Errno) {
	if !within(number, 0, api.MaxViews-1) {
		return 0, api.ErrRange
	}
	key := 2 * uint64(number)
	if open {
		key++
	}
	return key, api.OK
}

// SplitKey returns the view number of any word, and whether it is the key of an open view.
func SplitKey(k uint64) (number uint64, open bool) {
	return k / 2, k%2 == 1
}

// Mark returns the mark of the transaction with sequence number seq.
func Mark(seq int) (uint64, api.Errno) {
	if !within(seq, 1, api.MaxSeq-1) {
		return 0, api.ErrRange
	}
	return uint64(seq)<<markBits | markEnd, api.OK
}

// SplitMark returns the sequence number of which m is the mark, and false if there is none. Like the functions
// SplitTag, SplitLease and SplitBallot it packs what it found again, so that it accepts what the packing returns
// and nothing else.
func SplitMark(m uint64) (seq int, ok bool) {
	seq = int(m >> markBits)
	if again, code := Mark(seq); code != api.OK || again != m {
		return 0, false
	}
	return seq, true
}

// Tag returns the recoverer's tag of an incarnation of a compute node.
func Tag(inc, client int) (uint64, api.Errno) {
	if !isIncarnation(inc) {
		return 0, api.ErrRange
	}
	if !isClient(client) {
		return 0, api.ErrArg
	}
	return uint64(inc)<<ownerBits | uint64(client+1), api.OK
}

// SplitTag returns the incarnation and the compute node of which t is the tag, and false if there are none.
func SplitTag(t uint64) (inc, client int, ok bool) {
	inc, client = int(t>>ownerBits), int(t&low(ownerBits))-1
	if again, code := Tag(inc, client); code != api.OK || again != t {
		return 0, 0, false
	}
	return inc, client, true
}

// Lease returns the lease of an incarnation that ends with the tick until.
func Lease(inc, until int) (uint64, api.Errno) {
	if !isIncarnation(inc) {
		return 0, api.ErrRange
	}
	if !within(until, 0, 1<<untilBits-1) {
		return 0, api.ErrArg
	}
	return uint64(inc)<<untilBits | uint64(until), api.OK
}

// SplitLease returns the incarnation and the last tick of which l is the lease, and false if there are none.
func SplitLease(l uint64) (inc, until int, ok bool) {
	inc, until = int(l>>untilBits), int(l&low(untilBits))
	if again, code := Lease(inc, until); code != api.OK || again != l {
		return 0, 0, false
	}
	return inc, until, true
}

// Ballot returns the ballot of a compute node in a round; later rounds have greater ballots.
func Ballot(round, client int) (uint64, api.Errno) {
	if !within(round, 1, api.MaxRound) {
		return 0, api.ErrRange
	}
	if !isClient(client) {
		return 0, api.ErrArg
	}
	return uint64(round)<<clientBits | uint64(client+1), api.OK
}

// SplitBallot returns the round and the compute node of which b is the ballot, and false if there are none.
func SplitBallot(b uint64) (round, client int, ok bool) {
	round, client = int(b>>clientBits), int(b&low(clientBits))-1
	if again, code := Ballot(round, client); code != api.OK || again != b {
		return 0, 0, false
	}
	return round, client, true
}

// Consensus returns the word of a promised ballot, an accepted ballot and its value.
func Consensus(promise, accepted, value uint64) (uint64, api.Errno) {
	if !within(promise, 0, low(ballotBits)) || !within(accepted, 0, low(ballotBits)) || !within(value, 0, low(valueBits)) {
		return 0, api.ErrRange
	}
	return promise<<(valueBits+ballotBits) | accepted<<valueBits | value, api.OK
}

// SplitConsensus returns the three parts of any word.
func SplitConsensus(w uint64) (promise, accepted, value uint64) {
	return w >> (valueBits + ballotBits), w >> valueBits & low(ballotBits), w & low(valueBits)
}
