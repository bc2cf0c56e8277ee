package logrec_test

import (
	"slices"
	"testing"

	"bodega/api"
	"bodega/logrec"
)

// isParsed fails the test unless Parse returns the record, and keeps and changes nothing of the words.
func isParsed(t *testing.T, body []uint64, lines int, want logrec.Record) {
	t.Helper()
	before := slices.Clone(body)
	got, code := logrec.Parse(body, lines)
	if code != api.OK || !equal(got, want) {
		t.Errorf("Parse of %v for %d lines = %+v, %v; want %+v", body, lines, got, code, want)
	}
	if !slices.Equal(body, before) {
		t.Errorf("Parse of %v has changed it to %v", before, body)
	}
}

// isNot fails the test unless Parse returns the code and no record.
func isNot(t *testing.T, what string, body []uint64, lines int, want api.Errno) {
	t.Helper()
	before := slices.Clone(body)
	if got, code := logrec.Parse(body, lines); code != want || !isZero(got) {
		t.Errorf("%s: Parse of %v for %d lines = %+v, %v; want %v", what, body, lines, got, code, want)
	}
	if !slices.Equal(body, before) {
		t.Errorf("%s: Parse of %v has changed it to %v", what, before, body)
	}
}

// Promise 8.2: a body, word by word.
func TestBodyWrittenOut(t *testing.T) {
	r := logrec.Record{Seq: 7, Writes: []api.Page{
		{Line: 120, Head: 0x300, Data: [7]uint64{11, 12, 13, 14, 15, 16, 17}},
		{Line: 130, Head: 0xFFFFFFFFFFFE00, Data: [7]uint64{top, 0, 1 << 63, 24, 25, 26, 27}},
	}}
	want := sealed(7, 2, 120, 0x300, 11, 12, 13, 14, 15, 16, 17, 130, 0xFFFFFFFFFFFE00, top, 0, 1<<63, 24, 25, 26, 27)
	if got := logrec.Body(r); !slices.Equal(got, want) {
		t.Errorf("the body is %v; want %v", got, want)
	}
	isParsed(t, want, 131, r)
}

// Promise 8.2: every number of Writes; Parse gives the record back.
func TestBody(t *testing.T) {
	for _, r := range records() {
		before := copied(r)
		got := logrec.Body(r)
		if want := bodyOf(r); !slices.Equal(got, want) {
			t.Errorf("Body of %+v = %v; want %v", r, got, want)
		}
		if len(got) != 3+9*len(r.Writes) || len(got) > api.LogBody {
			t.Errorf("Body of %d Writes has %d words", len(r.Writes), len(got))
		}
		if !equal(r, before) {
			t.Errorf("Body of %+v has changed it to %+v", before, r)
		}
		isParsed(t, got, 256, r)
	}
}

// invalid are records that no memory node can have.
func invalid() map[string]logrec.Record {
	l := map[string]logrec.Record{
		"nothing":         {},
		"Writes, none":    {Seq: 1},
		"Writes, 13":      made(1, 13, 100, 1),
		"Writes, 14":      made(1, 14, 100, 1),
		"Writes, 200":     made(1, 200, 20, 1),
		"lines, equal":    {Seq: 1, Writes: []api.Page{mixed(100, 1, 1), mixed(100, 1, 2)}},
		"lines, falling":  {Seq: 1, Writes: []api.Page{mixed(101, 1, 1), mixed(100, 1, 2)}},
		"lines, the last": {Seq: 1, Writes: []api.Page{mixed(100, 1, 1), mixed(101, 1, 1), mixed(101, 1, 2)}},
	}
	for i, seq := range append(far(), 0, maxSeq, maxSeq+1) {
		l["Seq "+string(rune('a'+i))] = made(seq, 2, 100, 1)
	}
	for i, line := range append(far(), 0, 95, 256) {
		l["line "+string(rune('a'+i))] = logrec.Record{Seq: 1, Writes: []api.Page{mixed(line, 1, 1)}}
		l["second line "+string(rune('a'+i))] = logrec.Record{Seq: 1, Writes: []api.Page{mixed(99, 1, 1), mixed(line, 1, 1)}}
	}
	for i, head := range []uint64{0, 1, 255, 257, 262, 263, 511, (maxVersion - 1) * 256, (maxVersion-2)*256 + 1, maxVersion * 256, top} {
		r := made(1, 2, 100, 1)
		r.Writes[1].Head = head
		l["header "+string(rune('a'+i))] = r
	}
	return l
}

// Promise 8.2: an invalid record has no body, and words that would be one, with a fitting checksum, are no body.
func TestBodyOfAnInvalidRecord(t *testing.T) {
	for what, r := range invalid() {
		before := copied(r)
		if got := logrec.Body(r); len(got) != 0 {
			t.Errorf("%s: Body of %+v = %v", what, r, got)
		}
		if !equal(r, before) {
			t.Errorf("%s: Body of %+v has changed it to %+v", what, before, r)
		}
		isNot(t, what, bodyOf(r), 256, api.ErrCorrupt)
		isNot(t, what, append(bodyOf(r), make([]uint64, 120)...), 256, api.ErrCorrupt)
	}
}

// Promise 8.2: what is behind the body does not matter, be it another body.
func TestParseIgnoresWordsBehind(t *testing.T) {
	for _, r := range records() {
		body := bodyOf(r)
		for _, more := range [][]uint64{{0}, {top}, bodyOf(made(3, 12, 100, 1)), make([]uint64, 300)} {
			isParsed(t, append(slices.Clone(body), more...), 256, r)
		}
	}
}

// Promise 8.2: words of a body that end too early, also if there is memory behind them that holds the rest.
func TestParseOfTooFewWords(t *testing.T) {
	isNot(t, "no words", nil, 200, api.ErrCorrupt)
	for _, r := range records() {
		body := bodyOf(r)
		for n := range body {
			isNot(t, "a part of a body", body[:n], 256, api.ErrCorrupt)
			isNot(t, "the end of a body", body[len(body)-n:], 256, api.ErrCorrupt)
		}
	}
}

// Promise 8.2: every bit of a body counts.
func TestParseOfChangedBits(t *testing.T) {
	for _, writes := range []int{1, 2, 12} {
		body := append(bodyOf(made(3, writes, 100, 1)), make([]uint64, 9)...)
		for at := range 3 + 9*writes {
			for bit := range 64 {
				body[at] ^= 1 << bit
				isNot(t, "a changed bit", body, 200, api.ErrCorrupt)
				body[at] ^= 1 << bit
			}
		}
	}
}

// Promise 8.2: the checksum is that of the words before it, no other one.
func TestParseOfOtherChecksums(t *testing.T) {
	r := made(3, 2, 100, 1)
	words := unsealed(r)
	sum := bodyOf(r)[len(words)]
	others := []uint64{0, top, ^sum, sum + 1, sum - 1, sum << 32, sum >> 32}
	others = append(others, bodyOf(made(4, 2, 100, 1))[len(words)], sealed(words[1:]...)[len(words)-1], sealed(words[:len(words)-1]...)[len(words)-1])
	for _, other := range others {
		isNot(t, "another checksum", append(slices.Clone(words), other), 200, api.ErrCorrupt)
		isNot(t, "another checksum before the right one", append(slices.Clone(words), other, sum), 200, api.ErrCorrupt)
	}
	isParsed(t, append(slices.Clone(words), sum), 200, r)
}

// Promise 8.2, rule R1: numbers of Writes that the words do not have, that are too great, or of which the number of
// words is small modulo 2^64, before as many words as there may be.
func TestParseOfOtherNumbersOfWrites(t *testing.T) {
	ninth := uint64(0x8E38E38E38E38E39) // times 9 it is 1 modulo 2^64
	numbers := []uint64{0, 1, 3, 11, 12, 13, 14, 100, 1 << 31, 1 << 32, 1<<32 + 2, 1 << 60, 1<<62 + 2, 1<<63 - 1, 1 << 63, 1<<63 + 2, top - 1, top}
	for i := range uint64(130) {
		numbers = append(numbers, ninth*i, -ninth*i)
	}
	for _, n := range numbers {
		if n == 2 {
			continue
		}
		words := unsealed(made(3, 2, 100, 1))
		words[1] = n
		isNot(t, "another number of Writes", sealed(words...), 200, api.ErrCorrupt)
		isNot(t, "another number of Writes", []uint64{3, n}, 200, api.ErrCorrupt)
		isNot(t, "another number of Writes", sealed(3, n), 200, api.ErrCorrupt)
		isNot(t, "another number of Writes", append(sealed(words...), make([]uint64, 99)...), 200, api.ErrCorrupt)
	}
}

// Promise 8.2: a record is valid for some numbers of lines only.
func TestParseForNumbersOfLines(t *testing.T) {
	for _, last := range []int{96, 97, 98, 120, 254, 255} {
		r := logrec.Record{Seq: 9, Writes: []api.Page{mixed(last, 5, 1)}}
		if last > 96 {
			r.Writes = append([]api.Page{mixed(96, 1, 2)}, r.Writes...)
		}
		for lines := 98; lines <= 256; lines++ {
			if last < lines {
				isParsed(t, bodyOf(r), lines, r)
				continue
			}
			isNot(t, "a line beyond the end", bodyOf(r), lines, api.ErrCorrupt)
		}
	}
}

// Promise 8.2: the check of the number of lines comes first.
func TestParseForNoNode(t *testing.T) {
	good := bodyOf(made(1, 2, 96, 1))
	for _, lines := range append(far(), -2, 0, 1, 5, 96, 97, 257, 258, 1000) {
		isNot(t, "no node has so many lines", good, lines, api.ErrLimit)
		isNot(t, "no node has so many lines", good[1:], lines, api.ErrLimit)
		isNot(t, "no node has so many lines", nil, lines, api.ErrLimit)
	}
}

// Rule R2: results are new memory.
func TestBodyAndParseShareNothing(t *testing.T) {
	r := made(3, 12, 100, 1)
	want := copied(r)
	body := logrec.Body(r)
	again := logrec.Body(r)
	first, _ := logrec.Parse(body, 200)
	second, _ := logrec.Parse(body, 200)
	clear(body)
	clear(first.Writes)
	if !equal(r, want) || !equal(second, want) || !slices.Equal(again, bodyOf(want)) {
		t.Error("a change of a result changes a record or another result")
	}
	clear(r.Writes)
	if !equal(second, want) || !slices.Equal(again, bodyOf(want)) {
		t.Error("a change of a record changes a result")
	}
}
