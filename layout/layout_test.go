package layout_test

import (
	"go/build"
	"slices"
	"testing"

	"bodega/api"
	"bodega/layout"
)

const (
	maxInt = 1<<63 - 1
	minInt = -1 << 63
)

// region is one of the functions that return addresses, with the range of its arguments, the address of the least one
// and how far the addresses are apart. The numbers are written out, not computed as in the package.
type region struct {
	name        string
	address     func(int) int
	least, most int
	first, step int
	words       int // that belong to each address
}

func regions() []region {
	return []region{
		{"Consensus", layout.Consensus, 0, 15, 8, 1, 1},
		{"Door", layout.Door, 0, 5, 24, 1, 1},
		{"Clock", layout.Clock, 0, 5, 32, 1, 1},
		{"Lease", layout.Lease, 0, 5, 40, 1, 1},
		{"Mark", layout.Mark, 0, 5, 48, 120, 1},
		{"Tag", layout.Tag, 0, 5, 49, 120, 1},
		{"Body", layout.Body, 0, 5, 56, 120, 112},
		{"Page", layout.Page, 96, 255, 768, 8, 8},
	}
}

// edges returns numbers at the limit and next to it.
func edges(limit int) []int {
	return []int{limit - 2, limit - 1, limit, limit + 1, limit + 2}
}

// far returns numbers that are out of every range. A product of some of them and a number of words is a small number
// again, modulo 2^64.
func far() []int {
	return []int{
		minInt, minInt + 1, minInt / 2, -1 << 62, -1 << 61, -1<<61 + 1, -1<<61 + 100, -1 << 60, -1 << 32, -1<<32 + 3, -1 << 16,
		-1 << 8, -255, -96, 1 << 16, 1<<16 + 1, 1 << 32, 1<<32 + 3, 1<<32 + 100, 1 << 60, 1 << 61, 1<<61 + 1, 1<<61 + 100,
		1 << 62, maxInt / 8, maxInt / 2, maxInt - 1, maxInt,
	}
}

// Promise 7.1: the address of every argument in range.
func TestAddresses(t *testing.T) {
	for _, r := range regions() {
		for i := r.least; i <= r.most; i++ {
			want := r.first + (i-r.least)*r.step
			if got := r.address(i); got != want {
				t.Errorf("%s(%d) = %d; want %d", r.name, i, got, want)
			}
		}
	}
}

// Promise 7.1: the first and the last argument in range, written out once more as the chapter's formulas.
func TestAddressesByFormula(t *testing.T) {
	for _, x := range []struct {
		name      string
		got, want int
	}{
		{"Door(0)", layout.Door(0), api.LineDoors * api.LineWords},
		{"Door(last)", layout.Door(api.MaxClients - 1), api.LineDoors*api.LineWords + api.MaxClients - 1},
		{"Clock(0)", layout.Clock(0), api.LineClocks * api.LineWords},
		{"Clock(last)", layout.Clock(api.MaxClients - 1), api.LineClocks*api.LineWords + api.MaxClients - 1},
		{"Lease(0)", layout.Lease(0), api.LineLeases * api.LineWords},
		{"Lease(last)", layout.Lease(api.MaxClients - 1), api.LineLeases*api.LineWords + api.MaxClients - 1},
		{"Consensus(0)", layout.Consensus(0), api.LineBallots * api.LineWords},
		{"Consensus(last)", layout.Consensus(api.MaxViews - 1), api.LineBallots*api.LineWords + api.MaxViews - 1},
		{"Mark(0)", layout.Mark(0), api.LineLogs * api.LineWords},
		{"Mark(last)", layout.Mark(api.MaxClients - 1), (api.LineLogs + (api.MaxClients-1)*api.LogLines) * api.LineWords},
		{"Tag(0)", layout.Tag(0), layout.Mark(0) + 1},
		{"Tag(last)", layout.Tag(api.MaxClients - 1), layout.Mark(api.MaxClients-1) + 1},
		{"Body(0)", layout.Body(0), layout.Mark(0) + api.LineWords},
		{"Body(last)", layout.Body(api.MaxClients - 1), layout.Mark(api.MaxClients-1) + api.LineWords},
		{"Page(first)", layout.Page(api.LineHeap), api.LineHeap * api.LineWords},
		{"Page(last)", layout.Page(api.MaxLines - 1), (api.MaxLines - 1) * api.LineWords},
	} {
		if x.got != x.want {
			t.Errorf("%s = %d; want %d", x.name, x.got, x.want)
		}
	}
}

// Chapter 7, examples.
func TestExamples(t *testing.T) {
	got := [...]int{layout.Door(0), layout.Mark(1), layout.Body(0), layout.Page(96)}
	if want := [...]int{24, 168, 56, 768}; got != want {
		t.Errorf("Door(0), Mark(1), Body(0), Page(96) = %v; want %v", got, want)
	}
}

// Promise 7.1, rule R1: -1 for every argument out of range, beside the limits and far from them.
func TestAddressesOutOfRange(t *testing.T) {
	for _, r := range regions() {
		tried := far()
		for _, limit := range []int{r.least, r.most, 0, api.MaxClients, api.MaxViews, api.LineHeap, api.MaxLines} {
			tried = append(tried, edges(limit)...)
		}
		for _, i := range tried {
			if r.least <= i && i <= r.most {
				continue
			}
			if got := r.address(i); got != -1 {
				t.Errorf("%s(%d) = %d; want -1", r.name, i, got)
			}
		}
	}
}

// Promise 7.1, rule R3: a call does not depend on the calls before it, also not on those of another region.
func TestAddressesDoNotDependOnEarlierCalls(t *testing.T) {
	for _, r := range regions() {
		for _, other := range regions() {
			other.address(other.most)
			other.address(other.most + 1)
			if got := r.address(r.least); got != r.first {
				t.Errorf("%s(%d) after %s = %d; want %d", r.name, r.least, other.name, got, r.first)
			}
		}
	}
}

// Promise 7.4: no two addresses coincide, nor do they coincide with the view key and the boot number.
func TestRegionsDoNotOverlap(t *testing.T) {
	owners := map[int]string{0: "the view key", 1: "the boot number"}
	for _, r := range regions() {
		for i := r.least; i <= r.most; i++ {
			for at := r.address(i); at < r.address(i)+r.words; at++ {
				if owner, taken := owners[at]; taken {
					t.Errorf("word %d belongs to %s and to %s", at, owner, r.name)
				}
				owners[at] = r.name
			}
		}
	}
	for at := range owners {
		if at < 0 || at >= api.MaxLines*api.LineWords {
			t.Errorf("word %d of %s is outside of the greatest memory node", at, owners[at])
		}
	}
}

// Promise 7.4: pages begin where the logs end, and the logs, each of LogLines lines, stand one behind the other.
func TestPagesBeginWhereLogsEnd(t *testing.T) {
	for client := range api.MaxClients {
		end := layout.Body(client) + api.LogBody
		if end-layout.Mark(client) != api.LogLines*api.LineWords {
			t.Errorf("the log of %d is from %d to %d", client, layout.Mark(client), end)
		}
		next := layout.Page(api.LineHeap)
		if client < api.MaxClients-1 {
			next = layout.Mark(client + 1)
		}
		if end != next {
			t.Errorf("the log of %d ends at %d, the next region begins at %d", client, end, next)
		}
	}
}

// Chapter 7: the package uses packages api, fabric, memnode and word.
func TestImports(t *testing.T) {
	folder, err := build.ImportDir(".", 0)
	if err != nil || len(folder.GoFiles) == 0 {
		t.Fatalf("the files %q: %v", folder.GoFiles, err)
	}
	allowed := []string{"bodega/api", "bodega/fabric", "bodega/memnode", "bodega/word"}
	for _, path := range folder.Imports {
		if !slices.Contains(allowed, path) {
			t.Errorf("the files %q import %q", folder.GoFiles, path)
		}
	}
}
