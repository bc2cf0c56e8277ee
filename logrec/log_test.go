package logrec_test

import (
	"slices"
	"testing"

	"bodega/api"
	"bodega/logrec"
)

// logOf returns a log with that mark and the body of a record, valid or not. All other words are not 0.
func logOf(mark uint64, r logrec.Record) []uint64 {
	log := make([]uint64, 120)
	for i := range log {
		log[i] = 0xDEAD_0000_0000_0003 + uint64(i)<<16
	}
	log[0] = mark
	copy(log[8:], bodyOf(r))
	return log
}

// isLog fails the test unless Whole and Committed return the record or none, as wanted, and leave the log as it is.
func isLog(t *testing.T, what string, log []uint64, lines int, whole, committed bool, r logrec.Record) {
	t.Helper()
	before := slices.Clone(log)
	returned := func(call string, got logrec.Record, ok, want bool) {
		t.Helper()
		if ok != want || want && !equal(got, r) || !want && !isZero(got) {
			t.Errorf("%s: %s of a log of %d words for %d lines = %+v, %v; want %v, %+v", what, call, len(log), lines, got, ok, want, r)
		}
	}
	got, ok := logrec.Whole(log, lines)
	returned("Whole", got, ok, whole)
	got, ok = logrec.Committed(log, lines)
	returned("Committed", got, ok, committed)
	if !slices.Equal(log, before) {
		t.Errorf("%s: the log %v was changed to %v", what, before, log)
	}
}

// Promise 8.3: with its mark, without one, and with those of other records.
func TestWholeAndCommitted(t *testing.T) {
	for _, r := range records() {
		mark := uint64(r.Seq)*4 + 2
		isLog(t, "its mark", logOf(mark, r), 256, true, true, r)
		for _, other := range []uint64{0, 2, 6, 10, 4 * maxSeq, 4*maxSeq + 2, top, uint64(r.Seq), uint64(r.Seq) * 4, uint64(r.Seq)*256 + 1} {
			isLog(t, "another mark", logOf(other, r), 256, true, other == mark, r)
		}
		for by := uint64(1); by <= 8; by++ {
			isLog(t, "a greater mark", logOf(mark+by, r), 256, true, false, r)
			isLog(t, "a smaller mark", logOf(mark-by, r), 256, true, false, r)
		}
		for bit := range 64 {
			isLog(t, "a mark with another bit", logOf(mark^1<<bit, r), 256, true, false, r)
		}
	}
}

// Promise 8.3: the tag and the rest of the control line do not matter; the mark is word 0 alone.
func TestControlLineBesideTheMark(t *testing.T) {
	r := made(9, 3, 100, 1)
	for at := 1; at < 8; at++ {
		for _, w := range []uint64{0, 2, 9, 38, 257, top} {
			log := logOf(38, r)
			log[at] = w
			isLog(t, "a marked record", log, 200, true, true, r)
			log[0] = 0
			isLog(t, "a record that is not marked", log, 200, true, false, r)
		}
	}
}

// Promise 8.3: a log has 120 words, whatever they are.
func TestLogsOfOtherLengths(t *testing.T) {
	none := logrec.Record{}
	isLog(t, "no words", nil, 200, false, false, none)
	for _, r := range []logrec.Record{made(7, 1, 100, 1), made(7, 12, 100, 1)} {
		log := logOf(30, r)
		for n := range log {
			isLog(t, "a part of a log", log[:n], 200, false, false, none)
			isLog(t, "the end of a log", log[n+1:], 200, false, false, none)
		}
		for more := 1; more < 130; more++ {
			isLog(t, "a log and more", append(slices.Clone(log), make([]uint64, more)...), 200, false, false, none)
			isLog(t, "a log behind more", append(make([]uint64, more), log...), 200, false, false, none)
		}
	}
}

// Promise 8.3: the body begins at word 8, at no other one.
func TestPlaceOfTheBody(t *testing.T) {
	r := made(7, 2, 100, 1)
	for at := 1; at+21 <= 120; at++ {
		log := make([]uint64, 120)
		log[0] = 30
		copy(log[at:], bodyOf(r))
		want := r
		if at != 8 {
			want = logrec.Record{}
		}
		isLog(t, "a body at another place", log, 200, at == 8, at == 8, want)
	}
}

// Promise 8.3: no record where Parse finds none, be there a fitting mark or not.
func TestLogsWithoutARecord(t *testing.T) {
	none := logrec.Record{}
	isLog(t, "a new log", make([]uint64, 120), 200, false, false, none)
	for what, r := range invalid() {
		isLog(t, what, logOf(uint64(r.Seq)*4+2, r), 256, false, false, none)
		isLog(t, what, logOf(0, r), 256, false, false, none)
	}
	for _, writes := range []int{1, 12} {
		for at := range 3 + 9*writes {
			for _, bit := range []int{0, 1, 7, 8, 31, 32, 62, 63} {
				log := logOf(30, made(7, writes, 100, 1))
				log[8+at] ^= 1 << bit
				isLog(t, "a changed bit", log, 200, false, false, none)
			}
		}
	}
}

// Promise 8.3: the number of lines counts as for Parse.
func TestLogsForNumbersOfLines(t *testing.T) {
	r := made(7, 3, 97, 2)
	for _, lines := range append(far(), 0, 96, 97, 98, 99, 101, 102, 103, 200, 255, 256, 257, 300) {
		fits, want := lines >= 102 && lines <= 256, logrec.Record{}
		if fits {
			want = r
		}
		isLog(t, "some lines", logOf(30, r), lines, fits, fits, want)
		isLog(t, "some lines, no mark", logOf(0, r), lines, fits, false, want)
	}
}

// Promise 8.5: over a committed record another body is written, line after line. From the first line on the log is not
// committed under the old mark, and it is whole when the last line is written, not before.
func TestBodyWrittenOverAnother(t *testing.T) {
	for _, old := range records() {
		for _, other := range records() {
			if other.Seq <= old.Seq {
				continue
			}
			mark := uint64(old.Seq)*4 + 2
			log := logOf(mark, old)
			isLog(t, "before the first line", log, 256, true, true, old)
			body := logrec.Body(other)
			for at := 0; at < len(body); at += 8 {
				copy(log[8+at:], body[at:min(at+8, len(body))])
				if log[8] != uint64(other.Seq) {
					t.Errorf("after %d words the first word is %d; want %d", at+8, log[8], other.Seq)
				}
				if at+8 < len(body) {
					isLog(t, "between two lines", log, 256, false, false, logrec.Record{})
				}
			}
			isLog(t, "after the last line", log, 256, true, false, other)
			log[0] = uint64(other.Seq)*4 + 2
			isLog(t, "with the new mark", log, 256, true, true, other)
		}
	}
}

// Promise 8.5: also if the new record differs from the old one in its Seq alone.
func TestBodyWrittenOverTheSameWrites(t *testing.T) {
	for writes := 1; writes <= 12; writes++ {
		old := made(5, writes, 100, 1)
		for _, seq := range []int{6, 7, 1000, maxSeq - 1} {
			other := copied(old)
			other.Seq = seq
			log := logOf(22, old)
			copy(log[8:], logrec.Body(other)[:8])
			isLog(t, "the first line", log, 256, false, false, logrec.Record{})
			copy(log[8:], logrec.Body(other))
			isLog(t, "the whole body", log, 256, true, false, other)
		}
	}
}

// Rule R2: results are new memory.
func TestLogSharesNothing(t *testing.T) {
	r := made(7, 12, 100, 1)
	log := logOf(30, r)
	whole, _ := logrec.Whole(log, 200)
	committed, _ := logrec.Committed(log, 200)
	clear(log)
	if !equal(whole, r) || !equal(committed, r) {
		t.Error("a change of a log changes a result")
	}
	clear(whole.Writes)
	if !equal(committed, r) {
		t.Error("a change of a result changes another one")
	}
	if _, ok := logrec.Whole(make([]uint64, api.LogLines*api.LineWords), 200); ok {
		t.Error("a log of zeros is whole")
	}
}
