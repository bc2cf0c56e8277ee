package fabric_test

import (
	"bytes"
	"fmt"
	"math/rand"
	"slices"
	"testing"

	"bodega/api"
	"bodega/fabric"
	"bodega/memnode"
	"bodega/queuepair"
	"bodega/verb"
)

// model is a fabric in plain words. A batch is the list of its verbs with what has become of them; which verb a pair
// has completed is found by looking for the first one to that memory node that has not.
type model struct {
	lines         int
	nodes         []*memnode.Node
	alive         []bool
	inc           []int
	batch         [][]reply
	pairs         map[[2]int]*queuepair.Pair
	orphans       []*queuepair.Pair
	trips, posted []int
}

// reply is a verb of a batch: the memory node, and the completion if there is one.
type reply struct {
	node int
	done *api.Done
}

// newModel returns the model of a new fabric.
func newModel(nodes, clients, lines int) *model {
	m := &model{lines: lines, pairs: map[[2]int]*queuepair.Pair{}, batch: make([][]reply, clients), trips: make([]int, clients), posted: make([]int, clients)}
	for range nodes {
		n, _ := memnode.New(lines)
		m.nodes = append(m.nodes, n)
	}
	for client := range clients {
		m.alive, m.inc = append(m.alive, true), append(m.inc, 1)
		m.connect(client)
	}
	return m
}

// connect gives a compute node empty pairs.
func (m *model) connect(client int) {
	for node := range m.nodes {
		m.pairs[[2]int{client, node}], _ = queuepair.New(client, m.inc[client], node)
	}
}

// lives reports whether there is such a compute node that is alive.
func (m *model) lives(client int) bool {
	return client >= 0 && client < len(m.alive) && m.alive[client]
}

// post is Post.
func (m *model) post(client int, l []api.Verb) api.Errno {
	switch {
	case !m.lives(client):
		return api.ErrArg
	case m.batch[client] != nil:
		return api.ErrBusy
	case len(l) == 0:
		return api.ErrArg
	case len(l) > 1024:
		return api.ErrLimit
	}
	for _, v := range l {
		if code := verb.Valid(v, len(m.nodes), m.lines); code != api.OK {
			return code
		}
	}
	for _, v := range l {
		m.pairs[[2]int{client, v.Node}].Post(v, m.lines)
		m.batch[client] = append(m.batch[client], reply{node: v.Node})
	}
	m.trips[client]++
	m.posted[client] += len(l)
	return api.OK
}

// waiting is Waiting.
func (m *model) waiting(client int) int {
	n := 0
	if client >= 0 && client < len(m.batch) {
		for _, r := range m.batch[client] {
			if r.done == nil {
				n++
			}
		}
	}
	return n
}

// take is Take.
func (m *model) take(client int) ([]api.Done, bool) {
	if !m.lives(client) || m.batch[client] == nil || m.waiting(client) > 0 {
		return nil, false
	}
	var l []api.Done
	for _, r := range m.batch[client] {
		l = append(l, *r.done)
	}
	m.batch[client] = nil
	return l, true
}

// choices is Choices.
func (m *model) choices() []fabric.Choice {
	var l []fabric.Choice
	for client := range m.alive {
		for node := range m.nodes {
			if p := m.pairs[[2]int{client, node}]; p != nil && p.Pending() > 0 {
				l = append(l, live(client, node))
			}
		}
	}
	for i, p := range m.orphans {
		l = append(l, orphanOf(i, p.Client(), p.Node()))
	}
	return l
}

// step is Step.
func (m *model) step(c fabric.Choice) bool {
	if c.Orphan >= 0 && c.Orphan < len(m.orphans) {
		p := m.orphans[c.Orphan]
		p.Step(m.nodes[p.Node()])
		m.orphans = slices.DeleteFunc(m.orphans, func(p *queuepair.Pair) bool { return p.Pending() == 0 })
		return true
	}
	p := m.pairs[[2]int{c.Client, c.Node}]
	if c.Orphan != -1 || p == nil || p.Pending() == 0 {
		return false
	}
	if d, completed := p.Step(m.nodes[c.Node]); completed {
		l := m.batch[c.Client]
		i := slices.IndexFunc(l, func(r reply) bool { return r.node == c.Node && r.done == nil })
		l[i].done = &d
	}
	return true
}

// drop is DropOrphan.
func (m *model) drop(i int) bool {
	if i < 0 || i >= len(m.orphans) {
		return false
	}
	m.orphans = append(slices.Clone(m.orphans[:i]), m.orphans[i+1:]...)
	return true
}

// die is Die.
func (m *model) die(client int) bool {
	if !m.lives(client) {
		return false
	}
	m.alive[client], m.batch[client] = false, nil
	for node := range m.nodes {
		p := m.pairs[[2]int{client, node}]
		delete(m.pairs, [2]int{client, node})
		if p.Pending() > 0 {
			m.orphans = append(m.orphans, p)
		}
	}
	return true
}

// rename is Restart of a compute node that is dead and Rename of one that is alive.
func (m *model) rename(client, inc int, alive bool) api.Errno {
	switch {
	case client < 0 || client >= len(m.alive) || m.alive[client] != alive:
		return api.ErrArg
	case m.batch[client] != nil:
		return api.ErrBusy
	case inc < 0 || inc > 59:
		return api.ErrRange
	}
	m.alive[client], m.inc[client] = true, inc
	m.connect(client)
	return api.OK
}

// copied is Copy.
func (m *model) copied() *model {
	c := newModel(len(m.nodes), len(m.alive), m.lines)
	c.pairs = map[[2]int]*queuepair.Pair{}
	for k, p := range m.pairs {
		c.pairs[k] = p.Copy()
	}
	for i, n := range m.nodes {
		c.nodes[i] = n.Copy()
	}
	for _, p := range m.orphans {
		c.orphans = append(c.orphans, p.Copy())
	}
	copy(c.alive, m.alive)
	copy(c.inc, m.inc)
	copy(c.trips, m.trips)
	copy(c.posted, m.posted)
	for i, l := range m.batch {
		c.batch[i] = slices.Clone(l)
	}
	return c
}

// text tells all that Encode tells apart.
func (m *model) text() string {
	s := fmt.Sprint(m.lines)
	for _, n := range m.nodes {
		s += fmt.Sprintf(" %x", n.Image())
	}
	for client := range m.alive {
		s += fmt.Sprint("; ", m.alive[client], m.inc[client], m.batch[client] != nil)
		for i, r := range m.batch[client] {
			if r.done != nil {
				s += fmt.Sprint(" verb ", i, ": ", int(r.done.Code), r.done.Words)
			}
		}
		for node := range m.nodes {
			if p := m.pairs[[2]int{client, node}]; p != nil {
				s += fmt.Sprintf(" pair %x", p.Encode())
			}
		}
	}
	for _, p := range m.orphans {
		s += fmt.Sprintf("; orphan %x", p.Encode())
	}
	return s
}

// matches fails the test unless the fabric is in the state of the model.
func (m *model) matches(t *testing.T, f *fabric.Fabric) {
	t.Helper()
	if f.Nodes() != len(m.nodes) || f.Clients() != len(m.alive) || f.Lines() != m.lines {
		t.Fatalf("a fabric of %d, %d, %d", f.Nodes(), f.Clients(), f.Lines())
	}
	for i, n := range m.nodes {
		if !bytes.Equal(f.Node(i).Image(), n.Image()) {
			t.Fatalf("memory node %d is in another state", i)
		}
	}
	for client := range m.alive {
		if f.Alive(client) != m.alive[client] || f.Inc(client) != m.inc[client] || f.Trips(client) != m.trips[client] || f.Posted(client) != m.posted[client] {
			t.Fatalf("compute node %d: %v, %d, %d, %d; want %+v", client, f.Alive(client), f.Inc(client), f.Trips(client), f.Posted(client), m)
		}
		waits(t, f, client, m.waiting(client))
	}
	chooses(t, f, m.choices()...)
}

// anyVerb returns a verb that is mostly valid and mostly admitted. There are few different ones.
func anyVerb(r *rand.Rand, nodes int) api.Verb {
	v := api.Verb{Kind: 1 + r.Intn(4), Node: r.Intn(nodes), At: []int{0, 25, 40, 46, 47, 55}[r.Intn(6)], N: []int{1, 2, 10}[r.Intn(3)], New: uint64(r.Intn(2))}
	if v.At < 40 && v.Kind != api.Read && r.Intn(4) > 0 {
		v.At = 40
	}
	v.Words = make([]uint64, v.N)
	v.Words[0] = uint64(r.Intn(2))
	switch r.Intn(40) {
	case 0:
		v.Kind = 0
	case 1:
		v.Node = nodes
	case 2:
		v.Key = 1
	}
	return v
}

// anyBatch returns a few verbs, or none.
func anyBatch(r *rand.Rand, nodes int) []api.Verb {
	var l []api.Verb
	for range []int{0, 1, 2, 2, 3, 3, 5, 8}[r.Intn(8)] {
		l = append(l, anyVerb(r, nodes))
	}
	return l
}

// anyChoice is mostly one of the choices.
func anyChoice(r *rand.Rand, l []fabric.Choice) fabric.Choice {
	if len(l) == 0 || r.Intn(8) == 0 {
		return fabric.Choice{Orphan: r.Intn(6) - 3, Client: r.Intn(5) - 1, Node: r.Intn(5) - 1}
	}
	return l[r.Intn(len(l))]
}

// act does the same to both, and fails the test if they answer differently.
func act(t *testing.T, r *rand.Rand, f *fabric.Fabric, m *model) {
	t.Helper()
	client, inc := r.Intn(len(m.alive)+2)-1, []int{-1, 0, 1, 3, 59, 60}[r.Intn(6)]
	i, node := r.Intn(6)-1, r.Intn(len(m.nodes))
	var got, want any
	switch kind := r.Intn(100); {
	case kind < 20:
		l := anyBatch(r, len(m.nodes))
		got, want = f.Post(client, l), m.post(client, l)
	case kind < 75:
		c := anyChoice(r, m.choices())
		got, want = f.Step(c), m.step(c)
	case kind < 85:
		a, x := f.Take(client)
		b, y := m.take(client)
		got, want = x == y && slices.EqualFunc(a, b, sameDone), true
	case kind < 87:
		got, want = f.DropOrphan(i), m.drop(i)
	case kind < 90:
		got, want = f.Die(client), m.die(client)
	case kind < 94:
		got, want = f.Restart(client, inc), m.rename(client, inc, false)
	case kind < 96:
		got, want = f.Rename(client, inc), m.rename(client, inc, true)
	case kind < 97:
		f.Node(node).Fail()
		m.nodes[node].Fail()
	case kind < 99:
		got, want = f.Node(node).Back(), m.nodes[node].Back()
	default:
		got, want = f.Node(node).Write(0, []uint64{0, 0}), m.nodes[node].Write(0, []uint64{0, 0})
	}
	if got != want {
		t.Fatalf("%v; want %v", got, want)
	}
}

// codes are the bytes of the states that were seen, and the states of the bytes.
type codes struct{ byText, byCode map[string]string }

// isOneToOne fails the test if the state had other bytes before, or the bytes belonged to another state.
func (c codes) isOneToOne(t *testing.T, text, code string) {
	t.Helper()
	if other, ok := c.byText[text]; ok && other != code {
		t.Fatalf("other bytes than before for a fabric in the state %s", text)
	}
	if other, ok := c.byCode[code]; ok && other != text {
		t.Fatalf("the same bytes for fabrics in the states %s and %s", text, other)
	}
	c.byText[text], c.byCode[code] = code, text
}

// Promises 6.1 to 6.6: histories of fabrics and of copies that go on apart, against the model. Two fabrics have the same
// bytes exactly if their models have the same text.
func TestHistories(t *testing.T) {
	r := rand.New(rand.NewSource(6))
	seen := codes{map[string]string{}, map[string]string{}}
	for range 500 {
		nodes, clients := 1+r.Intn(3), 1+r.Intn(3)
		fs, ms := []*fabric.Fabric{made(t, nodes, clients, lines)}, []*model{newModel(nodes, clients, lines)}
		for range 80 {
			i := r.Intn(len(fs))
			if len(fs) < 3 && r.Intn(30) == 0 {
				fs, ms = append(fs, fs[i].Copy()), append(ms, ms[i].copied())
			}
			act(t, r, fs[i], ms[i])
			for j, m := range ms {
				m.matches(t, fs[j])
			}
			seen.isOneToOne(t, ms[i].text(), string(fs[i].Encode()))
		}
	}
	if len(seen.byText) < 5000 {
		t.Errorf("only %d states were seen", len(seen.byText))
	}
}
