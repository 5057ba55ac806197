package play_test

import (
	"math"
	"reflect"
	"testing"

	"memento/api"
	"memento/cluster"
	"memento/play"
	"memento/script"
)

func item(block int, data string) api.Item {
	return api.Item{Block: block, Data: []byte(data)}
}

func create(id int, place ...int) api.VolCmd {
	return api.VolCmd{Kind: api.Create, Vol: id, Blocks: 4, Size: 1, Per: 2, Place: place}
}

func put(id int, l ...api.Item) api.VolCmd {
	return api.VolCmd{Kind: api.Put, Vol: id, Items: l}
}

func call(node, id int, c api.VolCmd) api.Event {
	return api.Event{Kind: api.EvCall, Node: node, Call: api.Call{Id: id, Kind: api.CallVol, Cmd: c}}
}

// led: a world whose groups are led.
func led(t *testing.T, nodes, groups, sectors int) *cluster.World {
	t.Helper()
	w, l, e := play.Run(nodes, groups, sectors)
	if e != api.OK || len(l) != 0 {
		t.Fatalf("Run: %d", e)
	}
	play.Fair(w, play.Bound(nodes))
	for g := range groups {
		if play.Leader(w, g) < 0 {
			t.Fatalf("nobody leads group %d", g)
		}
	}
	return w
}

// P27.1
func TestRun(t *testing.T) {
	if w, l, e := play.Run(1, 1, 5); w != nil || len(l) != 0 || e != api.ErrSpace {
		t.Errorf("Run without room: %d", e)
	}
	w, l, e := play.Run(2, 3, 99)
	if e != api.OK || len(l) != 0 || w.Nodes() != 2 || w.Groups() != 3 || !play.Whole(w) {
		t.Errorf("Run of nothing: %v, %d", l, e)
	}
	tick := api.Event{Kind: api.EvTick}
	events := []api.Event{{Kind: 77}, {Kind: api.EvDrop, N: 5}, call(9, 1, create(0, 1, 1)), call(0, 2, create(0, 1, 1)), {Kind: api.EvStart}}
	for range 11 {
		events = append(events, tick)
	}
	events = append(events, call(0, 3, create(0, 1, 1)), call(0, 4, put(0, item(0, "a"))), call(0, 5, create(0, 1, 1)))
	w, l, e = play.Run(1, 1, 99, events...)
	want := []api.Answer{{Id: 2, Reply: api.Reply{Code: api.ErrLeader}}, {Id: 3}, {Id: 4, Reply: api.Reply{Len: 1}}, {Id: 5, Reply: api.Reply{Code: api.ErrExists}}}
	if e != api.OK || !reflect.DeepEqual(l, want) || w == nil {
		t.Errorf("Run: %v, %d", l, e)
	}
}

// P27.1
func TestFair(t *testing.T) {
	if l := play.Fair(nil, 5); len(l) != 0 {
		t.Error("Fair of no world")
	}
	a, _, _ := play.Run(3, 2, 400)
	b, _, _ := play.Run(3, 2, 400)
	for _, rounds := range []int{math.MinInt, -1, 0} {
		if play.Fair(a, rounds); len(a.Flights()) != 0 {
			t.Error("Fair of no rounds")
		}
	}
	for _, rounds := range []int{9, 1, 1, 5, 30} {
		play.Fair(a, rounds)
		for range rounds {
			b.Do(api.Event{Kind: api.EvTick})
			for range len(b.Flights()) {
				b.Do(api.Event{Kind: api.EvArrive})
			}
		}
		if !reflect.DeepEqual(a.Flights(), b.Flights()) {
			t.Fatal("Fair is another thing")
		}
	}
	w := led(t, 3, 2, 400)
	n := play.Leader(w, 0)
	w.Do(call(n, 6, create(0, 1, 1)))
	w.Do(call(n, 7, put(0, item(0, "a"))))
	if l := play.Fair(w, 3); !reflect.DeepEqual(l, []api.Answer{{Id: 6, Node: n}, {Id: 7, Node: n, Reply: api.Reply{Len: 1}}}) {
		t.Errorf("answers: %v", l)
	}
}

// P27.1
func TestLeader(t *testing.T) {
	if play.Leader(nil, 0) != -1 {
		t.Error("Leader of no world")
	}
	w, _, _ := play.Run(3, 2, 400)
	if play.Leader(w, 0) != -1 {
		t.Error("Leader of a new world")
	}
	w = led(t, 3, 2, 400)
	for _, g := range []int{-1, 2, math.MaxInt, math.MinInt} {
		if play.Leader(w, g) != -1 {
			t.Errorf("Leader of group %d", g)
		}
	}
	old := play.Leader(w, 0)
	if r := w.Node(old).Raft(0); r.Role() != api.Leader {
		t.Error("Leader")
	}
	w.Do(api.Event{Kind: api.EvSplit, Mask: 1 << old})
	play.Fair(w, 60)
	now := play.Leader(w, 0)
	if now == old || w.Node(old).Raft(0).Role() != api.Leader || w.Node(now).Raft(0).Term() <= w.Node(old).Raft(0).Term() || !play.Whole(w) {
		t.Errorf("of two leaders %d, not %d", old, now)
	}
	w.Do(api.Event{Kind: api.EvCrash, Node: now})
	if play.Leader(w, 0) != old {
		t.Error("one that is down leads")
	}
}

// P27.1
func TestBound(t *testing.T) {
	for n, want := range map[int]int{1: 80, 3: 120, 7: 200, 0: 60, -4: -20} {
		if play.Bound(n) != want {
			t.Errorf("Bound(%d): %d", n, play.Bound(n))
		}
	}
}

// known: a led world with a volume that all nodes, all chunks know.
func known(t *testing.T) *cluster.World {
	t.Helper()
	w := led(t, 3, 2, 1000)
	n := play.Leader(w, 0)
	w.Do(call(n, 1, create(0, 1, 1)))
	for i := range 6 {
		w.Do(call(n, 2, put(0, item(i%4, "a"))))
	}
	play.Fair(w, 60)
	for n := range 3 {
		for i := range 2 {
			if c, ok := w.Node(n).Chunk(1, 0, i); !ok || c.Mark != 6 {
				t.Fatalf("node %d, chunk %d: %v", n, i, c)
			}
		}
	}
	if !play.Whole(w) {
		t.Fatal("it isn't whole")
	}
	return w
}

// said: node n hears m, whoever said it.
func said(w *cluster.World, n int, m api.Msg) {
	m.To = n
	w.Node(n).Recv(m)
}

// entryAt: a word by which node n takes data as the next entry of group g, and as committed.
func entryAt(w *cluster.World, n, g int, e api.Entry) api.Msg {
	r := w.Node(n).Raft(g)
	m := r.Image()
	last := m.Base.Index + len(m.Log)
	term := m.Base.Term
	if len(m.Log) > 0 {
		term = m.Log[len(m.Log)-1].Term
	}
	e.Index, e.Term = last+1, r.Term()+1
	return api.Msg{Kind: api.Append, Group: g, From: (n + 1) % 3, Term: r.Term() + 1, Index: last, LogTerm: term, Commit: last + 1, Entries: []api.Entry{e}}
}

// P27.2: what never happens by itself shows, when it is made to happen.
func TestNotWhole(t *testing.T) {
	if play.Whole(nil) {
		t.Error("no world is whole")
	}
	hex := func(c api.VolCmd) []byte {
		e, _, _ := script.Parse(script.Print(call(0, 0, c)))
		if len(e) != 1 {
			t.Fatal("no such call")
		}
		return bytesOf(t, c)
	}
	// Two nodes have other writes.
	w := known(t)
	said(w, 0, entryAt(w, 0, 0, api.Entry{Kind: api.Cmd, Data: hex(put(0, item(0, "x")))}))
	if !play.Whole(w) {
		t.Error("one knows more, and it isn't whole")
	}
	said(w, 1, entryAt(w, 1, 0, api.Entry{Kind: api.Cmd, Data: hex(put(0, item(0, "y")))}))
	if play.Whole(w) {
		t.Error("two have other writes, and it is whole")
	}
	w.Do(api.Event{Kind: api.EvCrash, Node: 1})
	if !play.Whole(w) {
		t.Error("one that is down counts")
	}
	// Another shape of a volume.
	w = known(t)
	said(w, 2, entryAt(w, 2, 0, api.Entry{Kind: api.Cmd, Data: hex(create(5, 1, 1))}))
	said(w, 1, entryAt(w, 1, 0, api.Entry{Kind: api.Cmd, Data: hex(create(5, 1, 2))}))
	if play.Whole(w) {
		t.Error("two have other volumes, and it is whole")
	}
	// A chunk has what nobody wrote.
	for i, p := range []api.PushCmd{
		{Vol: 0, Chunk: 1, Count: 2, Size: 1, From: 6, To: 7, Writes: []api.Write{{Seq: 7, Items: []api.Item{item(0, "z")}}}},
		{Vol: 0, Chunk: 2, Count: 1, Size: 1, From: 0, To: 0},
		{Vol: 0, Chunk: 5, Count: 2, Size: 2, From: 0, To: 6, Floor: 6},
	} {
		w = known(t)
		said(w, 0, entryAt(w, 0, 1, api.Entry{Kind: api.Cmd, Data: pushOf(t, p)}))
		whole := i == 0 // nobody knows of a time 7
		if play.Whole(w) != whole {
			t.Errorf("chunk %d: whole is %v", i, !whole)
		}
		if i == 0 {
			said(w, 1, entryAt(w, 1, 0, api.Entry{Kind: api.Cmd, Data: hex(put(0, item(0, "w")))}))
			if play.Whole(w) {
				t.Error("a chunk has another write, and it is whole")
			}
		}
	}
	// Two lead in a term.
	w = known(t)
	old := play.Leader(w, 0)
	other := (old + 1) % 3
	w.Do(api.Event{Kind: api.EvSplit, Mask: 1 << old})
	play.Fair(w, 60)
	now := play.Leader(w, 0)
	term := w.Node(now).Raft(0).Term()
	said(w, old, api.Msg{Kind: api.Append, From: other, Term: term - 1})
	for range 30 {
		w.Node(old).Tick()
		said(w, old, api.Msg{Kind: api.PreOk, From: other, Term: term, Ok: true})
		if w.Node(old).Raft(0).Role() == api.Candidate {
			said(w, old, api.Msg{Kind: api.VoteOk, From: other, Term: term, Ok: true})
		}
	}
	if w.Node(old).Raft(0).Term() != term || w.Node(old).Raft(0).Role() != api.Leader {
		t.Fatal("it doesn't lead")
	}
	if play.Whole(w) {
		t.Error("two lead in a term, and it is whole")
	}
}
