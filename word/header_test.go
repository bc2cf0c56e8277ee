package word_test

import (
	"testing"

	"bodega/api"
	"bodega/word"
)

// Promise 1.2.
func TestHeader(t *testing.T) {
	for _, version := range append(edgeWords(), api.MaxVersion-1, api.MaxVersion) {
		for _, owner := range edgeInts() {
			want, wantCode := version*256+uint64(owner), api.OK
			switch {
			case version == 0 || version >= api.MaxVersion:
				want, wantCode = 0, api.ErrRange
			case owner < 0 || owner > api.MaxClients:
				want, wantCode = 0, api.ErrArg
			}
			got, code := word.Header(version, owner)
			isPacked(t, show("Header", version, owner), got, code, want, wantCode)
		}
	}
}

// Promise 1.2: every word has a version and an owner.
func TestSplitHeader(t *testing.T) {
	for _, h := range edgeWords() {
		if version, owner := word.SplitHeader(h); version != h/256 || owner != int(h%256) {
			t.Errorf("SplitHeader(%#x) = %#x, %d", h, version, owner)
		}
	}
}

// Promise 1.2: all owners, also those that no compute node has.
func TestUnlocked(t *testing.T) {
	for owner := range uint64(256) {
		for _, version := range []uint64{0, 1, api.MaxVersion - 1, top >> 8} {
			if h := version*256 + owner; word.Unlocked(h) != (owner == 0) {
				t.Errorf("Unlocked(%#x) = %v", h, word.Unlocked(h))
			}
		}
	}
}

// Promise 1.2: the check of the client comes first; the version is not checked.
func TestLock(t *testing.T) {
	for _, client := range edgeInts() {
		for _, version := range []uint64{0, 1, 2, api.MaxVersion - 1, api.MaxVersion, top >> 8} {
			for _, owner := range []uint64{0, 1, api.MaxClients, api.MaxClients + 1, 128, 255} {
				h := version*256 + owner
				want, wantCode := h+uint64(client)+1, api.OK
				switch {
				case client < 0 || client >= api.MaxClients:
					want, wantCode = 0, api.ErrArg
				case owner != 0:
					want, wantCode = 0, api.ErrBusy
				}
				got, code := word.Lock(h, client)
				isPacked(t, show("Lock", h, client), got, code, want, wantCode)
			}
		}
	}
}

// Promise 1.2: the owner does not matter, the version and the next one must be versions.
func TestNext(t *testing.T) {
	versions := []uint64{0, 1, 2, 255, 256, api.MaxVersion - 3, api.MaxVersion - 2, api.MaxVersion - 1, api.MaxVersion, api.MaxVersion + 1, top>>8 - 1, top >> 8}
	for _, version := range versions {
		for _, owner := range []uint64{0, 1, api.MaxClients, 128, 255} {
			want, wantCode := (version+1)*256, api.OK
			if version < 1 || version+1 >= api.MaxVersion {
				want, wantCode = 0, api.ErrRange
			}
			h := version*256 + owner
			got, code := word.Next(h)
			isPacked(t, show("Next", h), got, code, want, wantCode)
		}
	}
}
