package logrec_test

import (
	"testing"

	"bodega/api"
	"bodega/logrec"
)

// isValid fails the test unless Valid returns the code and leaves the record as it is.
func isValid(t *testing.T, r logrec.Record, lines int, want api.Errno) {
	t.Helper()
	before := copied(r)
	if got := logrec.Valid(r, lines); got != want {
		t.Errorf("Valid of %+v for %d lines = %v; want %v", r, lines, got, want)
	}
	if !equal(r, before) {
		t.Errorf("Valid of %+v has changed it to %+v", before, r)
	}
}

// Promise 8.1: the least and the greatest of everything.
func TestValid(t *testing.T) {
	for _, r := range records() {
		isValid(t, r, 256, api.OK)
	}
	isValid(t, made(1, 1, 96, 1), 98, api.OK)
	isValid(t, made(1, 2, 96, 1), 98, api.OK)
}

// Promise 8.1: every number of lines near the limits, and far from them; an invalid record does not come first.
func TestValidForNumbersOfLines(t *testing.T) {
	good, bad := made(1, 2, 96, 1), logrec.Record{}
	for lines := -2; lines <= 300; lines++ {
		want, wantBad := api.OK, api.ErrArg
		if lines < 98 || lines > 256 {
			want, wantBad = api.ErrLimit, api.ErrLimit
		}
		isValid(t, good, lines, want)
		isValid(t, bad, lines, wantBad)
	}
	for _, lines := range far() {
		isValid(t, good, lines, api.ErrLimit)
		isValid(t, bad, lines, api.ErrLimit)
	}
}

// Promise 8.1.
func TestValidOfSeqs(t *testing.T) {
	for _, seq := range append(far(), -2, 0, 1, 2, 1000, maxSeq-2, maxSeq-1, maxSeq, maxSeq+1, 2*maxSeq) {
		want := api.OK
		if seq < 1 || seq > maxSeq-1 {
			want = api.ErrArg
		}
		r := made(1, 3, 100, 1)
		r.Seq = seq
		isValid(t, r, 200, want)
	}
}

// Promise 8.1: none is too few, 13 are too many, also where the lines are wrong too.
func TestValidOfNumbersOfWrites(t *testing.T) {
	isValid(t, logrec.Record{Seq: 1, Writes: []api.Page{}}, 200, api.ErrArg)
	for writes := range 40 {
		want, wantOutside := api.OK, api.ErrRange
		if writes < 1 || writes > 12 {
			want, wantOutside = api.ErrArg, api.ErrArg
		}
		isValid(t, made(1, writes, 96, 1), 200, want)
		isValid(t, made(1, writes, 95, 1), 200, wantOutside)
	}
}

// Promise 8.1: every line of the heap, the lines beside it and lines far away, at each place in the record.
func TestValidOfLines(t *testing.T) {
	tried := far()
	for line := range 300 {
		tried = append(tried, line)
	}
	for _, lines := range []int{98, 99, 150, 256} {
		for _, line := range tried {
			want := api.OK
			if line < 96 || line >= lines {
				want = api.ErrRange
			}
			isValid(t, made(1, 1, line, 1), lines, want)
		}
	}
	for i := range 12 {
		for _, line := range append(far(), 0, 95, 201, 256) {
			r := made(1, 12, 100, 1)
			r.Writes[i].Line = line
			isValid(t, r, 201, api.ErrRange)
		}
	}
}

// Promise 8.1: every pair of lines in the heap of a small node, and neighbours at each place of a long record.
func TestValidOfOrders(t *testing.T) {
	for first := 96; first < 110; first++ {
		for second := 96; second < 110; second++ {
			want := api.OK
			if first >= second {
				want = api.ErrArg
			}
			isValid(t, logrec.Record{Seq: 1, Writes: []api.Page{mixed(first, 1, 1), mixed(second, 1, 2)}}, 110, want)
		}
	}
	for i := range 11 {
		r := made(1, 12, 100, 2)
		r.Writes[i].Line = r.Writes[i+1].Line
		isValid(t, r, 200, api.ErrArg)
		r = made(1, 12, 100, 2)
		r.Writes[i].Line, r.Writes[i+1].Line = r.Writes[i+1].Line, r.Writes[i].Line
		isValid(t, r, 200, api.ErrArg)
		r = made(1, 12, 100, 2)
		r.Writes[i].Line++
		isValid(t, r, 200, api.OK)
	}
}

// Promise 8.1: every owner, and versions that have no next one, at each place of the record.
func TestValidOfHeads(t *testing.T) {
	for _, version := range []uint64{0, 1, 2, 255, 256, 1 << 40, maxVersion - 3, maxVersion - 2, maxVersion - 1, maxVersion, maxVersion + 1, 1<<56 - 2, 1<<56 - 1} {
		for owner := range uint64(256) {
			want := api.OK
			if owner != 0 || version < 1 || version > maxVersion-2 {
				want = api.ErrArg
			}
			for i := range 3 {
				r := made(1, 3, 100, 1)
				r.Writes[i].Head = version*256 + owner
				isValid(t, r, 200, want)
			}
		}
	}
}

// fault makes a record or a number of lines invalid.
type fault func(r *logrec.Record, lines *int)

// faults are those of each item of the list of errors. Together they do not mend each other.
func faults() [][]fault {
	setLines := func(to int) fault { return func(_ *logrec.Record, lines *int) { *lines = to } }
	setSeq := func(to int) fault { return func(r *logrec.Record, _ *int) { r.Seq = to } }
	setLine := func(i, to int) fault { return func(r *logrec.Record, _ *int) { r.Writes[i].Line = to } }
	setHead := func(i int, to uint64) fault { return func(r *logrec.Record, _ *int) { r.Writes[i].Head = to } }
	return [][]fault{
		{setHead(0, 257), setHead(1, 0), setHead(3, (maxVersion-1)*256), setHead(4, top)},
		{setLine(1, 132), setLine(2, 110), setLine(2, 130), setLine(3, 120)},
		{setLine(0, 95), setLine(0, -1), setLine(4, 200), setLine(4, 256), setLine(4, maxInt)},
		{
			func(r *logrec.Record, _ *int) { r.Writes = nil },
			func(r *logrec.Record, _ *int) { r.Writes = append(r.Writes, made(1, 8, 150, 1).Writes...) },
		},
		{setSeq(0), setSeq(-1), setSeq(maxSeq), setSeq(maxInt)},
		{setLines(97), setLines(257), setLines(0), setLines(-1), setLines(maxInt)},
	}
}

// Promise 8.1, rule R5: with several faults the first one of the list is reported, at whatever place in the record.
func TestOrderOfErrors(t *testing.T) {
	codes := []api.Errno{api.ErrArg, api.ErrArg, api.ErrRange, api.ErrArg, api.ErrArg, api.ErrLimit}
	var try func(item int, r logrec.Record, lines int, want api.Errno)
	try = func(item int, r logrec.Record, lines int, want api.Errno) {
		if item == len(codes) {
			isValid(t, r, lines, want)
			return
		}
		try(item+1, r, lines, want)
		for _, f := range faults()[item] {
			other, otherLines := copied(r), lines
			f(&other, &otherLines)
			try(item+1, other, otherLines, codes[item])
		}
	}
	try(0, made(1, 5, 100, 10), 200, api.OK)
}
