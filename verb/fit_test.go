package verb_test

import (
	"slices"
	"testing"

	"bodega/api"
	"bodega/verb"
)

// Promise 4.4.
func TestReturns(t *testing.T) {
	for _, count := range []int{1, 2, 7, 8, 9, 20, 1024} {
		for kind, want := range map[int]int{api.Read: count, api.Write: 0, api.Cas: 1, api.Add: 1} {
			v := plain(kind, 40, count)
			if got := verb.Returns(v); got != want {
				t.Errorf("Returns(kind %d, %d words) = %d; want %d", kind, count, got, want)
			}
		}
	}
	// Fields that a kind does not use return nothing.
	for kind, want := range map[int]int{api.Read: 3, api.Write: 0, api.Cas: 1, api.Add: 1} {
		if got := verb.Returns(api.Verb{Kind: kind, At: 40, N: 3, Words: []uint64{1, 2}}); got != want {
			t.Errorf("Returns(kind %d) = %d; want %d", kind, got, want)
		}
	}
}

// asked are verbs that return 3, no, one, one and 10 words.
func asked() []api.Verb {
	return []api.Verb{plain(api.Read, 40, 3), plain(api.Write, 40, 4), plain(api.Cas, 40, 1), plain(api.Add, 40, 1), plain(api.Read, 785, 10)}
}

// answered are completions of asked that fit.
func answered() []api.Done {
	return []api.Done{{Words: make([]uint64, 3)}, {}, {Words: []uint64{4}}, {Words: []uint64{5}}, {Words: make([]uint64, 10)}}
}

// Promise 4.4: each verb with each code and each number of words.
func TestFit(t *testing.T) {
	if !verb.Fit(asked(), answered()) {
		t.Error("completions that fit do not")
	}
	returns := []int{3, 0, 1, 1, 10}
	for i := range asked() {
		for _, code := range []int{minInt, -1, 0, 1, 2, 3, 4, 5, 6, 7, 14, 20, 21, 1 << 32, 1<<32 + 4, maxInt} {
			for words := range 12 {
				got := answered()
				got[i] = api.Done{Code: api.Errno(code), Words: make([]uint64, words)}
				want := code == 0 && words == returns[i] || (code == 4 || code == 5) && words == 0
				if fit := verb.Fit(asked(), got); fit != want {
					t.Errorf("verb %d with code %d and %d words: Fit = %v; want %v", i, code, words, fit, want)
				}
				if fit := verb.Fit(asked()[i:i+1], got[i:i+1]); fit != want {
					t.Errorf("verb %d alone with code %d and %d words: Fit = %v; want %v", i, code, words, fit, want)
				}
			}
		}
	}
}

// Promise 4.4: one completion for each verb, no more and no less, in the order of the verbs.
func TestFitOfOtherLengths(t *testing.T) {
	for n := range len(asked()) + 1 {
		for m := range len(asked()) + 1 {
			if got := verb.Fit(asked()[:n], answered()[:m]); got != (n == m) {
				t.Errorf("%d completions of %d verbs: Fit = %v", m, n, got)
			}
		}
	}
	if verb.Fit(asked(), append(answered(), api.Done{})) || verb.Fit(nil, []api.Done{{}}) || verb.Fit(asked()[1:2], nil) {
		t.Error("a completion too many or too few fits")
	}
	if !verb.Fit(nil, nil) || !verb.Fit([]api.Verb{}, nil) || !verb.Fit(nil, []api.Done{}) {
		t.Error("no completions of no verbs do not fit")
	}
	swapped := answered()
	swapped[0], swapped[1] = swapped[1], swapped[0]
	if verb.Fit(asked(), swapped) {
		t.Error("completions in another order fit")
	}
	failed := slices.Repeat([]api.Done{{Code: api.ErrGone}, {Code: api.ErrRefused, Words: []uint64{}}}, 3)[:len(asked())]
	if !verb.Fit(asked(), failed) {
		t.Error("completions with errors do not fit")
	}
}

// Promise 4.4: the first code that is not OK, at every place and before others; any code counts.
func TestFirst(t *testing.T) {
	for n := range 5 {
		for at := range n {
			for _, code := range []api.Errno{api.ErrGone, api.ErrRefused, api.ErrArg, -1, 77} {
				got := make([]api.Done, n)
				got[at].Code = code
				if first := verb.First(got); first != code {
					t.Errorf("%d completions, number %d with %v: First = %v", n, at, code, first)
				}
				for i := at + 1; i < n; i++ {
					got[i].Code = code + 1
				}
				if first := verb.First(got); first != code {
					t.Errorf("%d completions, from number %d on other codes than OK: First = %v; want %v", n, at, first, code)
				}
			}
		}
		if first := verb.First(make([]api.Done, n)); first != api.OK {
			t.Errorf("%d completions with OK: First = %v", n, first)
		}
	}
	if first := verb.First(nil); first != api.OK {
		t.Errorf("no completions: First = %v", first)
	}
	if first := verb.First(append(answered(), api.Done{Code: api.ErrRefused}, api.Done{Code: api.ErrGone})); first != api.ErrRefused {
		t.Errorf("First = %v; want %v", first, api.ErrRefused)
	}
}
