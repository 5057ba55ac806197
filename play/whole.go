package play

import (
	"bytes"

	"memento/api"
	"memento/chunk"
	"memento/cluster"
	"memento/model"
	"memento/volume"
)

// view: a world, as it is looked at.
type view struct {
	*cluster.World
}

// up: the nodes that are up, rising.
func (w view) up() []int {
	var l []int
	for n := range w.Nodes() {
		if w.Up(n) {
			l = append(l, n)
		}
	}
	return l
}

// Whole: does all hold of w that holds at each moment?
func Whole(w *cluster.World) bool {
	if w == nil {
		return false
	}
	v := view{w}
	for g := range w.Groups() {
		if !v.oneLeads(g) {
			return false
		}
	}
	for id := range api.MaxVols {
		if !v.volumeWhole(id) {
			return false
		}
	}
	return true
}

// oneLeads: does in each term no more than one lead group g?
func (w view) oneLeads(g int) bool {
	led := map[int]int{} // how many lead in a term
	for _, n := range w.up() {
		r := w.Node(n).Raft(g)
		if r.Role() != api.Leader {
			continue
		}
		led[r.Term()]++
		if led[r.Term()] > 1 {
			return false
		}
	}
	return true
}

// volumeWhole: is what all nodes have of a volume, its chunks too, of one history?
func (w view) volumeWhole(id int) bool {
	l := w.volumes(id)
	for i, a := range l {
		if !volume.Right(a) {
			return false
		}
		for _, b := range l[:i] {
			if !model.Prefix(a, b) && !model.Prefix(b, a) {
				return false
			}
		}
	}
	chunks := w.chunks(id)
	for _, c := range chunks {
		if !chunk.Right(c) {
			return false
		}
	}
	return len(l) == 0 || told(longest(l), chunks)
}

// volumes: that one, of each node that has it.
func (w view) volumes(id int) []api.Volume {
	var l []api.Volume
	for _, n := range w.up() {
		if v, ok := w.Node(n).Volume(id); ok {
			l = append(l, v)
		}
	}
	return l
}

// longest: the first one of l that has the most writes.
func longest(l []api.Volume) api.Volume {
	best := l[0]
	for _, v := range l {
		if volume.Len(v) > volume.Len(best) {
			best = v
		}
	}
	return best
}

// chunks: all of a volume, of all groups of all nodes.
func (w view) chunks(id int) []api.Chunk {
	var l []api.Chunk
	for _, n := range w.up() {
		x := w.Node(n)
		for g := range w.Groups() {
			for i := range api.MaxBlocks {
				if c, ok := x.Chunk(g, id, i); ok {
					l = append(l, c)
				}
			}
		}
	}
	return l
}

// told: has each chunk at each of its times just what v says of that time?
func told(v api.Volume, l []api.Chunk) bool {
	for t := v.Floor; t <= volume.Len(v); t++ {
		state, e := volume.State(v, t)
		if e != api.OK {
			return false
		}
		for _, c := range l {
			if c.Floor <= t && t <= c.Mark && !agrees(c, t, state, v.Per) {
				return false
			}
		}
	}
	return true
}

// agrees: has c at t what state says of its blocks, per of which are a chunk's?
func agrees(c api.Chunk, t int64, state [][]byte, per int) bool {
	first := c.Chunk * per
	for i := range c.Count {
		b, e := chunk.Read(c, i, t)
		if e != api.OK || first+i >= len(state) || !bytes.Equal(b, state[first+i]) {
			return false
		}
	}
	return true
}
