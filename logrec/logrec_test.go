package logrec_test

import (
	"encoding/binary"
	"go/build"
	"hash/crc64"
	"slices"
	"testing"

	"bodega/api"
	"bodega/logrec"
)

const (
	top    = 1<<64 - 1
	maxInt = 1<<63 - 1
	minInt = -1 << 63

	// The chapter's numbers, written out, not taken from package api as in the package.
	maxSeq     = 1 << 30
	maxVersion = 1 << 48
)

// mixed returns a page with contents without a short period; another seed gives other contents.
func mixed(line int, version, seed uint64) api.Page {
	p := api.Page{Line: line, Head: version * 256}
	for i := range p.Data {
		seed = seed*6364136223846793005 + 1442695040888963407
		p.Data[i] = seed ^ seed>>29
	}
	return p
}

// made returns a record of that many Writes, in lines that are step apart.
func made(seq, writes, first, step int) logrec.Record {
	r := logrec.Record{Seq: seq}
	for i := range writes {
		r.Writes = append(r.Writes, mixed(first+i*step, uint64(i*i*1000+1), uint64(seq+i)))
	}
	return r
}

// records are valid for 256 lines: every number of Writes, with the least and the greatest Seq, line, version and contents.
func records() []logrec.Record {
	l := []logrec.Record{
		{Seq: 1, Writes: []api.Page{{Line: 96, Head: 256}}},
		{Seq: maxSeq - 1, Writes: []api.Page{{Line: 255, Head: (maxVersion - 2) * 256, Data: [7]uint64{top, top, top, top, top, top, top}}}},
		{Seq: 5, Writes: []api.Page{mixed(96, 1, 1), mixed(255, maxVersion-2, 2)}},
	}
	for writes := 1; writes <= 12; writes++ {
		l = append(l, made(writes, writes, 96, 1), made(1<<29+writes, writes, 100, 13), made(maxSeq-writes, writes, 244, 1))
	}
	return l
}

// copied returns a record that shares no memory with r.
func copied(r logrec.Record) logrec.Record {
	return logrec.Record{Seq: r.Seq, Writes: slices.Clone(r.Writes)}
}

// equal compares two records part by part.
func equal(a, b logrec.Record) bool {
	if a.Seq != b.Seq || len(a.Writes) != len(b.Writes) {
		return false
	}
	for i, p := range a.Writes {
		q := b.Writes[i]
		if p.Line != q.Line || p.Head != q.Head {
			return false
		}
		for k := range 7 {
			if p.Data[k] != q.Data[k] {
				return false
			}
		}
	}
	return true
}

// isZero reports whether a record is the one beside an error.
func isZero(r logrec.Record) bool {
	return r.Seq == 0 && len(r.Writes) == 0
}

// sealed appends the checksum of the words, which the library computes.
func sealed(words ...uint64) []uint64 {
	var b []byte
	for _, w := range words {
		b = binary.LittleEndian.AppendUint64(b, w)
	}
	return append(slices.Clone(words), crc64.Checksum(b, crc64.MakeTable(crc64.ECMA)))
}

// unsealed returns the words of a record, valid or not, as promise 8.2 describes them, without the checksum.
func unsealed(r logrec.Record) []uint64 {
	words := []uint64{uint64(r.Seq), uint64(len(r.Writes))}
	for _, p := range r.Writes {
		words = append(words, uint64(p.Line), p.Head)
		for _, w := range p.Data {
			words = append(words, w)
		}
	}
	return words
}

// bodyOf returns the body of a record, valid or not.
func bodyOf(r logrec.Record) []uint64 {
	return sealed(unsealed(r)...)
}

// far returns numbers that are out of every range. The lowest 32 bits of some of them are small numbers.
func far() []int {
	return []int{
		minInt, minInt + 1, minInt + 100, -1 << 62, -1 << 32, -1<<32 + 100, -1 << 31, -1 << 30, -256, -100, -96, -1,
		1 << 31, 1 << 32, 1<<32 + 1, 1<<32 + 100, 1<<32 + 200, 1 << 61, 1 << 62, 1<<62 + 100, maxInt - 1, maxInt,
	}
}

// The example of chapter 8.
func TestExample(t *testing.T) {
	body := logrec.Body(logrec.Record{Seq: 1, Writes: []api.Page{{Line: 96, Head: 256}}})
	if len(body) != 12 || !slices.Equal(body[:4], []uint64{1, 1, 96, 256}) {
		t.Errorf("the body is %v", body)
	}
}

// Promise 8.1: a record is the same as a copy of it, and as no record that differs in one part.
func TestSame(t *testing.T) {
	for _, r := range records() {
		if !logrec.Same(r, r) || !logrec.Same(r, copied(r)) {
			t.Errorf("%+v is not the same as itself", r)
		}
		for what, other := range changed(r) {
			if logrec.Same(r, other) || logrec.Same(other, r) {
				t.Errorf("%+v is the same with another %s", r, what)
			}
		}
	}
}

// changed returns records that differ from r in one part.
func changed(r logrec.Record) map[string]logrec.Record {
	l := map[string]logrec.Record{}
	edit := func(what string, f func(r *logrec.Record)) {
		other := copied(r)
		f(&other)
		l[what] = other
	}
	last := len(r.Writes) - 1
	edit("Seq", func(r *logrec.Record) { r.Seq++ })
	edit("Seq, by 2^32", func(r *logrec.Record) { r.Seq += 1 << 32 })
	edit("number of Writes, one less", func(r *logrec.Record) { r.Writes = r.Writes[:last] })
	edit("number of Writes, one more", func(r *logrec.Record) { r.Writes = append(r.Writes, r.Writes[last]) })
	edit("number of Writes, one more of zeros", func(r *logrec.Record) { r.Writes = append(r.Writes, api.Page{}) })
	edit("number of Writes, none", func(r *logrec.Record) { r.Writes = nil })
	if last > 0 {
		edit("order of Writes", func(r *logrec.Record) { slices.Reverse(r.Writes) })
		edit("number of Writes, the first one missing", func(r *logrec.Record) { r.Writes = r.Writes[1:] })
	}
	for i := range r.Writes {
		at := " of page " + string(rune('a'+i))
		edit("Line"+at, func(r *logrec.Record) { r.Writes[i].Line++ })
		edit("Head, the version"+at, func(r *logrec.Record) { r.Writes[i].Head += 256 })
		edit("Head, the owner"+at, func(r *logrec.Record) { r.Writes[i].Head++ })
		for k := range 7 {
			edit("word "+string(rune('0'+k))+at, func(r *logrec.Record) { r.Writes[i].Data[k] ^= 1 << 63 })
		}
	}
	return l
}

// Promise 8.1: records that are not valid are compared as well; no Writes are no Writes, nil or empty.
func TestSameOfRecordsThatAreNotValid(t *testing.T) {
	none, empty := logrec.Record{Seq: -3}, logrec.Record{Seq: -3, Writes: []api.Page{}}
	if !logrec.Same(none, empty) || !logrec.Same(empty, none) || !logrec.Same(logrec.Record{}, logrec.Record{}) {
		t.Error("records without Writes are not the same")
	}
	if logrec.Same(none, logrec.Record{}) || logrec.Same(empty, logrec.Record{Seq: -3, Writes: make([]api.Page, 1)}) {
		t.Error("records without Writes are the same as others")
	}
	r := logrec.Record{Seq: maxInt, Writes: []api.Page{{Line: 3, Head: top}, {Line: minInt}, {Line: 3, Head: 77}}}
	for range 20 {
		r.Writes = append(r.Writes, mixed(0, 0, uint64(len(r.Writes))))
	}
	other := copied(r)
	if !logrec.Same(r, other) {
		t.Error("a record of 23 Writes is not the same as its copy")
	}
	other.Writes[22].Data[6]++
	if logrec.Same(r, other) {
		t.Error("a record of 23 Writes is the same with another last word")
	}
}

// Chapter 8: the package uses packages api, crc and word.
func TestImports(t *testing.T) {
	folder, err := build.ImportDir(".", 0)
	if err != nil || len(folder.GoFiles) == 0 {
		t.Fatalf("the files %q: %v", folder.GoFiles, err)
	}
	for _, path := range folder.Imports {
		if !slices.Contains([]string{"bodega/api", "bodega/crc", "bodega/word", "slices"}, path) {
			t.Errorf("the files %q import %q", folder.GoFiles, path)
		}
	}
}
