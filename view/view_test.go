package view_test

import (
	"go/build"
	"reflect"
	"slices"
	"testing"

	"bodega/api"
)

const (
	top    = ^uint64(0)
	maxInt = int(^uint(0) >> 1)
	minInt = -maxInt - 1
)

// far are numbers far out of every range; some of them would be in it if only their lowest bits counted.
func far() []int {
	return []int{minInt, minInt + 1, -1 << 32, -256, 256, 1 << 31, 1<<32 + 1, 1<<32 + 2, maxInt - 1, maxInt}
}

// full and part return members that are full and that are not.
func full(node, boot int) api.Member { return api.Member{Node: node, Boot: boot, Full: true} }
func part(node, boot int) api.Member { return api.Member{Node: node, Boot: boot} }

// of returns a view.
func of(number int, members ...api.Member) api.View {
	return api.View{Number: number, Members: members}
}

// copied returns the same view in new memory.
func copied(v api.View) api.View {
	return api.View{Number: v.Number, Members: slices.Clone(v.Members)}
}

// equal reports whether two views are equal; no members are as good as an empty slice of them.
func equal(a, b api.View) bool {
	if len(a.Members) == 0 && len(b.Members) == 0 {
		return a.Number == b.Number
	}
	return reflect.DeepEqual(a, b)
}

// choices are what a memory node can be in the views of these tests: no member, or one with one of the boot numbers,
// full or not.
func choices(boots ...int) []api.Member {
	all := []api.Member{{}}
	for _, boot := range boots {
		all = append(all, api.Member{Boot: boot}, api.Member{Boot: boot, Full: true})
	}
	return all
}

// each calls f with all lists of members on the memory nodes from 0 to nodes-1, the valid ones and those of which none
// is full or that are empty.
func each(nodes int, choices []api.Member, f func(members []api.Member)) {
	var members []api.Member
	var add func(node int)
	add = func(node int) {
		if node == nodes {
			f(members)
			return
		}
		for _, m := range choices {
			if m.Boot == 0 {
				add(node + 1)
				continue
			}
			m.Node = node
			members = append(members, m)
			add(node + 1)
			members = members[:len(members)-1]
		}
	}
	add(0)
}

// someFull reports whether a member is full.
func someFull(members []api.Member) bool {
	for _, m := range members {
		if m.Full {
			return true
		}
	}
	return false
}

// The package uses those packages that the chapter names, and no others but the library's.
func TestImports(t *testing.T) {
	folder, err := build.ImportDir(".", 0)
	if err != nil || len(folder.GoFiles) == 0 {
		t.Fatalf("the files %q: %v", folder.GoFiles, err)
	}
	for _, path := range folder.Imports {
		if !slices.Contains([]string{"bodega/api", "bodega/layout", "bodega/word", "slices"}, path) {
			t.Errorf("the files %q import %q", folder.GoFiles, path)
		}
	}
}
