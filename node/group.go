package node

import (
	"memento/api"
	"memento/csm"
	"memento/msm"
	"memento/raft"
)

// machine: what a group's entries are applied to: the volumes of group 0, the chunks of another one; the other one of the two is nil.
type machine struct {
	volumes *msm.Machine
	chunks  *csm.Machine
}

// newMachine: the machine of group g that was data; a new one of no data.
func newMachine(g int, data []byte) machine {
	var m machine
	if g == 0 {
		m.volumes = msm.New()
		m.volumes.Load(data)
	} else {
		m.chunks = csm.New()
		m.chunks.Load(data)
	}
	return m
}

// do: an entry's data is applied.
func (m machine) do(data []byte) api.Reply {
	if m.volumes != nil {
		return m.volumes.Apply(data)
	}
	m.chunks.Apply(data)
	return api.Reply{}
}

// snap: the machine as bytes.
func (m machine) snap() []byte {
	if m.volumes != nil {
		return m.volumes.Snap()
	}
	return m.chunks.Snap()
}

// question: a call that waits for the entry of that term.
type question struct {
	id, term int
}

// pushes: what was proposed of chunks in a term.
type pushes struct {
	term int
	done map[part][]known
}

// proposed tells whether k or more was proposed of the chunk in this term.
func (g *group) proposed(at part, k known) bool {
	if g.pushes.term != g.Term() {
		return false
	}
	for _, d := range g.done[at] {
		if d.covers(k) {
			return true
		}
	}
	return false
}

// note: k was proposed of the chunk in this term; what it covers need not be kept.
func (g *group) note(at part, k known) {
	if g.pushes.term != g.Term() {
		g.pushes = pushes{term: g.Term(), done: map[part][]known{}}
	}
	l := []known{k}
	for _, d := range g.done[at] {
		if !k.covers(d) {
			l = append(l, d)
		}
	}
	g.done[at] = l
}

// group: one that the node is a member of.
type group struct {
	*raft.Raft
	machine
	pushes
	number int
	base   int                // the Index that the log begins behind
	asked  map[int][]question // by the Index of the entry
}

// newGroup: group g as m has it.
func newGroup(id, g int, m api.Image) *group {
	p := &group{Raft: raft.New(id, g, m), number: g}
	p.restore()
	return p
}

// restore: the machine is as the base has it, nothing is asked.
func (g *group) restore() {
	b := g.Image().Base
	g.machine = newMachine(g.number, b.Data)
	g.base = b.Index
	g.asked = map[int][]question{}
}

// leads tells whether this node leads the group.
func (g *group) leads() bool {
	return g.Role() == api.Leader
}

// apply: all that is ready, and the answers to what was asked of it.
func (g *group) apply() []api.Answer {
	var answers []api.Answer
	for _, e := range g.Ready() {
		var reply api.Reply
		if e.Kind == api.Cmd {
			reply = g.do(e.Data)
		}
		for _, q := range g.asked[e.Index] {
			if q.term == e.Term {
				answers = append(answers, api.Answer{Id: q.id, Reply: reply})
			}
		}
		delete(g.asked, e.Index)
	}
	return answers
}
