package logrec_test

import (
	"slices"
	"testing"

	"bodega/api"
	"bodega/logrec"
)

// versions are those that pages have, at the limits, and some that no page has.
func versions() []uint64 {
	return []uint64{0, 1, 2, 255, 256, 1 << 40, maxVersion - 3, maxVersion - 2, maxVersion - 1, maxVersion, maxVersion + 1, 1<<56 - 2, 1<<56 - 1}
}

// Promise 8.4: every owner and every compute node; the check of the compute node comes first, the version is not checked.
func TestLocked(t *testing.T) {
	for _, version := range versions() {
		for owner := range uint64(256) {
			for _, client := range append(far(), -2, 0, 1, 2, 3, 4, 5, 6, 7, 8, 255, 256) {
				want, wantCode := version*256+uint64(client)+1, api.OK
				switch {
				case client < 0 || client > 5:
					want, wantCode = 0, api.ErrArg
				case owner != 0:
					want, wantCode = 0, api.ErrBusy
				}
				p := api.Page{Line: 100, Head: version*256 + owner, Data: [7]uint64{9, 8, 7, 6, 5, 4, 3}}
				if got, code := logrec.Locked(p, client); got != want || code != wantCode {
					t.Errorf("Locked of version %d, owner %d for %d = %d, %v; want %d, %v", version, owner, client, got, code, want, wantCode)
				}
			}
		}
	}
}

// Promise 8.4: every owner; a version without a next one is ErrRange.
func TestApplied(t *testing.T) {
	for _, version := range versions() {
		for owner := range uint64(256) {
			want, wantCode := []uint64{(version + 1) * 256, 11, 0, top, 14, 1 << 63, 16, 17}, api.OK
			if version < 1 || version > maxVersion-2 {
				want, wantCode = nil, api.ErrRange
			}
			p := api.Page{Line: 100, Head: version*256 + owner, Data: [7]uint64{11, 0, top, 14, 1 << 63, 16, 17}}
			if got, code := logrec.Applied(p); !slices.Equal(got, want) || code != wantCode {
				t.Errorf("Applied of version %d, owner %d = %v, %v; want %v, %v", version, owner, got, code, want, wantCode)
			}
		}
	}
}

// Promise 8.4: the line of the page does not matter.
func TestPagesInAnyLine(t *testing.T) {
	for _, line := range append(far(), 0, 95, 96, 255, 256) {
		p := mixed(line, 7, 5)
		if got, code := logrec.Locked(p, 5); got != 7*256+6 || code != api.OK {
			t.Errorf("Locked in line %d = %d, %v", line, got, code)
		}
		if got, code := logrec.Applied(p); !slices.Equal(got, append([]uint64{8 * 256}, p.Data[:]...)) || code != api.OK {
			t.Errorf("Applied in line %d = %v, %v", line, got, code)
		}
	}
}

// Promises 8.1 and 8.4: the pages of a valid record can be locked by every compute node, and applied; the words of each
// are a line.
func TestPagesOfValidRecords(t *testing.T) {
	for _, r := range records() {
		for _, p := range r.Writes {
			for client := range 6 {
				if got, code := logrec.Locked(p, client); got != p.Head+uint64(client)+1 || code != api.OK {
					t.Errorf("Locked of %+v for %d = %d, %v", p, client, got, code)
				}
			}
			if got, code := logrec.Applied(p); len(got) != api.LineWords || got[0] != p.Head+256 || code != api.OK {
				t.Errorf("Applied of %+v = %v, %v", p, got, code)
			}
		}
	}
}

// Rule R2: results are new memory.
func TestAppliedSharesNothing(t *testing.T) {
	pages := []api.Page{mixed(100, 1, 1)}
	want := append([]uint64{512}, pages[0].Data[:]...)
	first, _ := logrec.Applied(pages[0])
	second, _ := logrec.Applied(pages[0])
	clear(first)
	if pages[0] != mixed(100, 1, 1) || !slices.Equal(second, want) {
		t.Error("a change of a result changes the page or another result")
	}
	clear(pages)
	if !slices.Equal(second, want) {
		t.Error("a change of the page changes a result")
	}
}
