package export_test

import (
	"math"
	"reflect"
	"testing"

	"memento/api"
	"memento/chain"
	"memento/chunk"
	"memento/cluster"
	"memento/export"
	"memento/stream"
	"memento/volume"
)

func item(block int, data string) api.Item {
	return api.Item{Block: block, Data: []byte(data)}
}

// some: a volume of five blocks of a byte, two a chunk, with seven writes and a floor of 2.
func some() api.Volume {
	v, _ := volume.New(api.VolCmd{Vol: 3, Blocks: 5, Size: 1, Per: 2, Place: []int{1, 2, 1}})
	for i, l := range [][]api.Item{
		{item(0, "a"), item(4, "b")}, {item(1, "c")}, {item(2, "d"), item(3, "e")}, {item(0, "f")}, {item(4, "g")}, {item(0, "h"), item(3, "i")}, {item(2, "j")},
	} {
		var r api.Reply
		if v, r = volume.Do(v, api.VolCmd{Kind: api.Put, Items: l}); r.Len != int64(i)+1 {
			panic("Put")
		}
	}
	v, _ = volume.Do(v, api.VolCmd{Kind: api.Prune, At: 2})
	return v
}

// chunkOf: v's n-th chunk, told all up to mark, pruned to floor.
func chunkOf(v api.Volume, n int, mark, floor int64) api.Chunk {
	v.Writes, v.Floor = v.Writes[:mark], floor
	p, _ := volume.Push(v, n, 0)
	c := chunk.New(p)
	for c.Mark < mark || c.Floor < floor {
		p, _ = volume.Push(v, n, c.Mark)
		c = chunk.Apply(c, p)
	}
	return c
}

func chunks(v api.Volume, mark, floor int64) []api.Chunk {
	var l []api.Chunk
	for n := range v.Place {
		l = append(l, chunkOf(v, n, mark, floor))
	}
	return l
}

// P23.1
func TestPick(t *testing.T) {
	v := some()
	c := chunkOf(v, 1, 5, 2)
	other := func(change func(c *api.Chunk)) api.Chunk {
		o := chunkOf(v, 1, 7, 0)
		change(&o)
		return o
	}
	l := []api.Chunk{
		other(func(c *api.Chunk) { c.Vol = 2 }), other(func(c *api.Chunk) { c.Chunk = 0 }), other(func(c *api.Chunk) { c.Count, c.Hist = 1, c.Hist[:1] }), other(func(c *api.Chunk) { c.Size = 2 }),
		c, chunkOf(v, 1, 7, 0), chunkOf(v, 1, 6, 0),
	}
	for i, x := range []struct {
		n        int
		from, to int64
		want     int // below 0: none
	}{
		{1, 2, 5, 4}, {1, 5, 5, 4}, {1, 2, 2, 4}, {1, 1, 5, 5}, {1, 2, 6, 5}, {1, 0, 0, 5}, {1, 0, 8, -1}, {1, -1, 2, -1}, {2, 2, 5, -1}, {3, 2, 5, -1}, {-1, 2, 5, -1}, {math.MaxInt, 2, 5, -1}, {1, math.MinInt64, math.MaxInt64, -1},
	} {
		got, ok := export.Pick(v, l, x.n, x.from, x.to)
		var want api.Chunk
		if x.want >= 0 {
			want = l[x.want]
		}
		if ok != (x.want >= 0) || !chunk.Same(got, want) {
			t.Errorf("Pick %d: %v, %v", i, got, ok)
		}
	}
	got, _ := export.Pick(v, l, 1, 2, 5)
	if got.Hist[0][0].Data[0] = '!'; !chunk.Same(l[4], chunkOf(v, 1, 5, 2)) {
		t.Error("Pick shares")
	}
}

// P23.1
func TestErrors(t *testing.T) {
	v := some()
	hidden := v
	hidden.Hidden = true
	l := chunks(v, 7, 2)
	for i, x := range []struct {
		v        api.Volume
		l        []api.Chunk
		from, to int64
		full, e  api.Errno // of Full at to, of Since
	}{
		{hidden, nil, 9, 1, api.ErrNone, api.ErrNone},
		{v, nil, 9, 1, api.ErrPruned, api.ErrForm},
		{v, nil, 1, 8, api.ErrFuture, api.ErrPruned},
		{v, nil, 2, 8, api.ErrFuture, api.ErrFuture},
		{v, nil, -1, -1, api.ErrPruned, api.ErrPruned},
		{v, nil, math.MinInt64, math.MaxInt64, api.ErrFuture, api.ErrPruned},
		{v, nil, 2, 7, api.ErrBehind, api.ErrBehind},
		{v, l[:2], 2, 7, api.ErrBehind, api.ErrBehind},
		{v, append(chunks(v, 6, 2)[:1], l[1:]...), 2, 7, api.ErrBehind, api.ErrBehind},
		{v, append(chunks(v, 7, 3)[:1], l[1:]...), 2, 7, api.OK, api.ErrBehind},
		{v, append(chunks(v, 7, 3)[:1], l[1:]...), 2, 2, api.ErrBehind, api.ErrBehind},
		{v, l, 2, 7, api.OK, api.OK},
		{v, l, 7, 7, api.OK, api.OK},
	} {
		if s, e := export.Full(x.v, x.l, x.to); e != x.full || (e != api.OK) != stream.Same(s, api.Stream{}) {
			t.Errorf("Full %d: %v, %d", i, s, e)
		}
		if s, e := export.Since(x.v, x.l, x.from, x.to); e != x.e || (e != api.OK) != stream.Same(s, api.Stream{}) {
			t.Errorf("Since %d: %v, %d", i, s, e)
		}
	}
}

// P23.1
func TestFull(t *testing.T) {
	v := some()
	for at := v.Floor; at <= volume.Len(v); at++ {
		s, e := export.Full(v, append(chunks(v, at/2, 0), chunks(v, 7, 2)...), at)
		state, _ := volume.State(v, at)
		if e != api.OK || !stream.Right(s) || s.From != -1 || s.To != at || !reflect.DeepEqual(chain.Blocks(s), state) {
			t.Errorf("Full at %d: %v, %d", at, s, e)
		}
	}
	empty, _ := volume.New(api.VolCmd{Blocks: 2, Size: 3, Per: 1, Place: []int{1, 1}})
	want := api.Stream{Blocks: 2, Size: 3, From: -1, Items: []api.Item{item(0, "\x00\x00\x00"), item(1, "\x00\x00\x00")}}
	if s, e := export.Full(empty, chunks(empty, 0, 0), 0); e != api.OK || !stream.Same(s, want) {
		t.Errorf("Full of an empty one: %v, %d", s, e)
	}
}

// P23.1, P23.3
func TestSince(t *testing.T) {
	v := some()
	l := chunks(v, 7, 2)
	s, e := export.Since(v, l, 3, 6)
	if want := (api.Stream{Blocks: 5, Size: 1, From: 3, To: 6, Items: []api.Item{item(0, "h"), item(3, "i"), item(4, "g")}}); e != api.OK || !stream.Same(s, want) {
		t.Errorf("Since: %v, %d", s, e)
	}
	for from := v.Floor; from <= 7; from++ {
		full, _ := export.Full(v, l, from)
		for to := from; to <= 7; to++ {
			s, e := export.Since(v, l, from, to)
			if e != api.OK || !stream.Right(s) || s.From != from || s.To != to {
				t.Fatalf("Since %d to %d: %v, %d", from, to, s, e)
			}
			m, e := chain.Merge(full, s)
			want, _ := export.Full(v, l, to)
			if e != api.OK || !stream.Same(m, want) {
				t.Errorf("%d to %d: %v, not %v", from, to, m, want)
			}
		}
	}
}

// rounds: so often a tick, and what is under way arrives.
func rounds(w *cluster.World, n int) {
	for range n {
		w.Do(api.Event{Kind: api.EvTick})
		for range len(w.Flights()) {
			w.Do(api.Event{Kind: api.EvArrive})
		}
	}
}

// ask: c of all nodes.
func ask(w *cluster.World, c api.VolCmd) {
	for n := range w.Nodes() {
		w.Do(api.Event{Kind: api.EvCall, Node: n, Call: api.Call{Kind: api.CallVol, Cmd: c}})
	}
	rounds(w, 5)
}

// P23.2
func TestGather(t *testing.T) {
	if v, l, e := export.Gather(nil, 3); e != api.ErrNone || len(l) != 0 || !reflect.DeepEqual(v, api.Volume{}) {
		t.Errorf("Gather of no world: %d", e)
	}
	w, _ := cluster.New(3, 4, 1000)
	rounds(w, 60)
	ask(w, api.VolCmd{Kind: api.Create, Vol: 3, Blocks: 5, Size: 1, Per: 1, Place: []int{3, 1, 1, 3, 7}})
	ask(w, api.VolCmd{Kind: api.Create, Vol: 4, Blocks: 1, Size: 1, Per: 1, Place: []int{1}})
	for i := range 3 {
		ask(w, api.VolCmd{Kind: api.Put, Vol: 3, Items: []api.Item{item(i, "x")}})
	}
	rounds(w, 40)
	// One is down, one doesn't know of the last write, one does.
	lead := w.Node(0).Raft(0).Lead()
	down, behind := (lead+1)%3, (lead+2)%3
	w.Do(api.Event{Kind: api.EvCrash, Node: down})
	w.Do(api.Event{Kind: api.EvStart, Node: down})
	rounds(w, 20)
	w.Do(api.Event{Kind: api.EvSplit, Mask: 1 << behind})
	ask(w, api.VolCmd{Kind: api.Put, Vol: 3, Items: []api.Item{item(4, "y")}})
	rounds(w, 5)
	w.Do(api.Event{Kind: api.EvCrash, Node: down})
	v, l, e := export.Gather(w, 3)
	want, _ := w.Node(lead).Volume(3)
	if e != api.OK || !reflect.DeepEqual(v, want) || len(v.Writes) != 4 {
		t.Errorf("Gather: %v, %d", v, e)
	}
	var all []api.Chunk
	for n := range 3 {
		if n == down {
			continue
		}
		for _, k := range [][2]int{{1, 1}, {1, 2}, {3, 0}, {3, 3}} {
			if c, ok := w.Node(n).Chunk(k[0], 3, k[1]); ok {
				all = append(all, c)
			}
		}
	}
	if len(all) != 8 || !reflect.DeepEqual(l, all) {
		t.Errorf("chunks: %v, not %v", l, all)
	}
	for _, vol := range []int{2, -1, 8, math.MaxInt} {
		if v, l, e := export.Gather(w, vol); e != api.ErrNone || len(l) != 0 || v.Blocks != 0 {
			t.Errorf("Gather of %d: %d", vol, e)
		}
	}
	// Of like lengths the greater floor, wherever it is.
	w.Do(api.Event{Kind: api.EvSplit})
	rounds(w, 60)
	lead = w.Node(behind).Raft(0).Lead()
	ask(w, api.VolCmd{Kind: api.Prune, Vol: 3, At: 2})
	if v, _, e := export.Gather(w, 3); e != api.OK || v.Floor != 2 {
		t.Errorf("Gather of the floor: %v, %d", v, e)
	}
	for n := range 3 {
		w.Do(api.Event{Kind: api.EvCrash, Node: n})
	}
	if _, _, e := export.Gather(w, 3); e != api.ErrNone {
		t.Errorf("Gather of none that is up: %d", e)
	}
}

// Volumes, chunks that aren't right: it ends, and doesn't panic.
func TestAllArguments(t *testing.T) {
	odd := []api.Volume{{}, {Place: []int{1, 2}}, {Blocks: math.MaxInt, Size: math.MaxInt, Per: math.MaxInt, Place: []int{1, 2}, Floor: -9}, {Place: []int{1}, Blocks: 2, Size: -3, Floor: math.MinInt64}}
	for _, v := range odd {
		p, _ := volume.Push(v, 0, 0)
		l := []api.Chunk{{}, {Count: p.Count, Size: p.Size}, {Count: p.Count, Size: p.Size, Floor: -99, Mark: 99, Hist: make([][]api.Version, 5)}}
		for _, at := range []int64{math.MinInt64, -1, 0, 1, math.MaxInt64} {
			export.Full(v, l, at)
			export.Since(v, l, at, 5)
			export.Since(v, l, -9, at)
			export.Pick(v, l, 0, at, at)
		}
	}
}
