package queuepair_test

import (
	"fmt"
	"math/rand"
	"slices"
	"testing"

	"bodega/api"
	"bodega/memnode"
	"bodega/queuepair"
	"bodega/verb"
)

// model is a pair in plain words: what is pending, and how many words of the first verb have been executed.
type model struct {
	client, inc, node int
	queue             []api.Verb
	touched           int
	read              []uint64
}

// post is Post for verbs that are valid for the node.
func (m *model) post(v api.Verb) api.Errno {
	if v.Node != m.node {
		return api.ErrArg
	}
	if len(m.queue) == api.MaxBatch {
		return api.ErrFull
	}
	m.queue = append(m.queue, v)
	return api.OK
}

// drop is Drop.
func (m *model) drop() {
	m.queue, m.touched, m.read = nil, 0, nil
}

// copied is Copy.
func (m *model) copied() *model {
	c := *m
	c.queue, c.read = slices.Clone(m.queue), slices.Clone(m.read)
	return &c
}

// ends completes the first verb.
func (m *model) ends(d api.Done) (api.Done, bool) {
	m.queue, m.touched, m.read = m.queue[1:], 0, nil
	return d, true
}

// stop returns the error that a node with these words reports.
func (m *model) stop(words []uint64, up bool) api.Errno {
	v := m.queue[0]
	var door uint64
	if len(words) > 24+m.client {
		door = words[24+m.client]
	}
	switch {
	case !up:
		return api.ErrGone
	case v.At+verb.Count(v) > len(words):
		return api.ErrRange
	case v.Kind == api.Read && v.At < 32:
		return api.OK
	case uint64(m.inc) < door:
		return api.ErrRefused
	case v.At < 24:
		return api.OK
	case uint64(v.Boot) != words[1] || v.Key != words[0]:
		return api.ErrRefused
	}
	return api.OK
}

// step is Step on a node with these words, which it changes: word by word until a line ends.
func (m *model) step(words []uint64, up bool) (api.Done, bool) {
	if len(m.queue) == 0 {
		return api.Done{}, false
	}
	if code := m.stop(words, up); code != api.OK {
		return m.ends(api.Done{Code: code})
	}
	v := m.queue[0]
	for {
		at := v.At + m.touched
		was := words[at]
		switch {
		case v.Kind == api.Write:
			words[at] = v.Words[m.touched]
		case v.Kind == api.Add:
			words[at] += v.New
		case v.Kind == api.Cas && was == v.Old:
			words[at] = v.New
		}
		if v.Kind != api.Write {
			m.read = append(m.read, was)
		}
		m.touched++
		if m.touched == verb.Count(v) {
			return m.ends(api.Done{Words: m.read})
		}
		if (at+1)%8 == 0 {
			return api.Done{}, false
		}
	}
}

// executed returns how many pieces of the first verb are executed: one for each line that is touched.
func (m *model) executed() int {
	if m.touched == 0 {
		return 0
	}
	at := m.queue[0].At
	return (at+m.touched-1)/8 - at/8 + 1
}

// text tells all that Encode tells apart.
func (m *model) text() string {
	s := fmt.Sprint(m.client, m.inc, m.node, m.executed(), m.read)
	for _, v := range m.queue {
		s += fmt.Sprint("; ", v.Kind, v.Node, v.At, v.Key, v.Boot)
		switch v.Kind {
		case api.Read:
			s += fmt.Sprint(" ", v.N)
		case api.Write:
			s += fmt.Sprint(" ", v.Words)
		case api.Cas:
			s += fmt.Sprint(" ", v.Old, v.New)
		case api.Add:
			s += fmt.Sprint(" ", v.New)
		}
	}
	return s
}

// matches fails the test unless the pair is in the state of the model.
func (m *model) matches(t *testing.T, p *queuepair.Pair) {
	t.Helper()
	if p.Client() != m.client || p.Inc() != m.inc || p.Node() != m.node || p.Pending() != len(m.queue) {
		t.Fatalf("the pair of %d, %d, %d has %d verbs; want %+v", p.Client(), p.Inc(), p.Node(), p.Pending(), m)
	}
	if len(m.queue) == 0 {
		isEmpty(t, p)
		return
	}
	isFirst(t, p, m.queue[0], m.executed())
}

// anyVerb returns a verb that is valid for nodes of 7 lines, mostly one that is admitted.
func anyVerb(r *rand.Rand) api.Verb {
	for {
		v := api.Verb{Kind: 1 + r.Intn(4), Node: number, At: r.Intn(56), N: 1 + r.Intn(20), Old: uint64(r.Intn(3)), New: uint64(r.Intn(3))}
		v.Key, v.Boot = uint64(r.Intn(2)), r.Intn(2)
		for range 1 + r.Intn(20) {
			v.Words = append(v.Words, uint64(r.Intn(3)))
		}
		if r.Intn(30) == 0 {
			v.Node = r.Intn(api.MaxNodes)
		}
		// Writes to words 0 and 1 and to the doors would refuse nearly all verbs after them.
		rare := v.Kind != api.Read && (v.At < 2 || v.At < 32 && v.At+verb.Count(v) > 24) && r.Intn(10) > 0
		if !rare && verb.Valid(v, api.MaxNodes, 7) == api.OK {
			return v
		}
	}
}

// anyWords returns the words of a node that admits many of the verbs.
func anyWords(r *rand.Rand, lines int) []uint64 {
	words := make([]uint64, 8*lines)
	for i := range words {
		words[i] = uint64(r.Intn(3))
	}
	words[0], words[1] = uint64(r.Intn(2)), uint64(r.Intn(2))
	return words
}

// changed changes a node and its words in the same way, as others may do between two steps.
func changed(r *rand.Rand, n *memnode.Node, words []uint64) {
	at := []int{0, 1, 24, 25, 40}[r.Intn(5)] % len(words)
	switch r.Intn(5) {
	case 0:
		n.Fail()
	case 1, 2:
		if n.Back() {
			words[1]++
		}
	default:
		value := uint64(r.Intn(2))
		if n.Write(at, []uint64{value}) == api.OK {
			words[at] = value
		}
	}
}

// history is a node with several pairs, and what they must be.
type history struct {
	n      *memnode.Node
	words  []uint64
	pairs  []*queuepair.Pair
	models []*model
}

// begun returns a history with a node of few lines and one or two pairs.
func begun(t *testing.T, r *rand.Rand) *history {
	t.Helper()
	words := anyWords(r, []int{7, 7, 7, 3, 5}[r.Intn(5)])
	h := &history{n: holding(t, words), words: words}
	for range 1 + r.Intn(2) {
		m := &model{client: r.Intn(2), inc: r.Intn(4), node: number}
		h.models = append(h.models, m)
		h.pairs = append(h.pairs, made(t, m.client, m.inc, m.node))
	}
	return h
}

// goOn does something with one of the pairs or with the node.
func (h *history) goOn(t *testing.T, r *rand.Rand) {
	t.Helper()
	i := r.Intn(len(h.pairs))
	p, m := h.pairs[i], h.models[i]
	switch kind := r.Intn(40); {
	case kind < 12:
		v := anyVerb(r)
		if got, want := p.Post(v, 7), m.post(v); got != want {
			t.Fatalf("Post(%+v) = %v; want %v", v, got, want)
		}
	case kind < 36:
		got, completed := p.Step(h.n)
		want, over := m.step(h.words, h.n.Up())
		if completed != over || !sameDone(got, want) {
			t.Fatalf("Step = %+v, %v; want %+v, %v", got, completed, want, over)
		}
	case kind == 36:
		p.Drop()
		m.drop()
	case kind == 37 && len(h.pairs) < 4:
		h.pairs = append(h.pairs, p.Copy())
		h.models = append(h.models, m.copied())
	default:
		changed(r, h.n, h.words)
	}
}

// codes are the bytes of the states that were seen, and the states of the bytes.
type codes struct{ byText, byCode map[string]string }

// isOneToOne fails the test if the state had other bytes before, or the bytes belonged to another state.
func (c codes) isOneToOne(t *testing.T, text, code string) {
	t.Helper()
	if other, ok := c.byText[text]; ok && other != code {
		t.Fatalf("other bytes than before for a pair in the state %s", text)
	}
	if other, ok := c.byCode[code]; ok && other != text {
		t.Fatalf("the same bytes for pairs in the states %s and %s", text, other)
	}
	c.byText[text], c.byCode[code] = code, text
}

// Promises 5.1 to 5.5: histories of several pairs, of copies and of nodes that fail, return and change, against the
// model. Two pairs have the same bytes exactly if their models have the same text.
func TestHistories(t *testing.T) {
	r := rand.New(rand.NewSource(5))
	seen := codes{map[string]string{}, map[string]string{}}
	for range 1500 {
		h := begun(t, r)
		for range 60 {
			h.goOn(t, r)
			holds(t, h.n, h.words)
			for i, m := range h.models {
				m.matches(t, h.pairs[i])
				seen.isOneToOne(t, m.text(), string(h.pairs[i].Encode()))
			}
		}
		if t.Failed() {
			return
		}
	}
}
