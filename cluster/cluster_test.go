package cluster_test

import (
	"bytes"
	"math"
	"reflect"
	"testing"

	"memento/api"
	"memento/cluster"
	"memento/msg"
	"memento/pdisk"
)

func world(t *testing.T, nodes, groups, sectors int) *cluster.World {
	t.Helper()
	w, e := cluster.New(nodes, groups, sectors)
	if e != api.OK {
		t.Fatalf("New: %d", e)
	}
	return w
}

// do: e, without an error.
func do(t *testing.T, w *cluster.World, e api.Event) []api.Answer {
	t.Helper()
	l, err := w.Do(e)
	if err != api.OK {
		t.Fatalf("%+v: %d", e, err)
	}
	return l
}

func fails(t *testing.T, w *cluster.World, e api.Event, want api.Errno) {
	t.Helper()
	if l, err := w.Do(e); err != want || len(l) != 0 {
		t.Errorf("%+v: %v, %d, not %d", e, l, err, want)
	}
}

// rounds: so often a tick, and what is under way arrives.
func rounds(t *testing.T, w *cluster.World, n int) []api.Answer {
	t.Helper()
	var l []api.Answer
	for range n {
		l = append(l, do(t, w, api.Event{Kind: api.EvTick})...)
		for range len(w.Flights()) {
			l = append(l, do(t, w, api.Event{Kind: api.EvArrive})...)
		}
	}
	return l
}

func lead(w *cluster.World, g int) int {
	l := -1
	for n := range w.Nodes() {
		if w.Up(n) && w.Node(n).Raft(g).Role() == api.Leader && (l < 0 || w.Node(n).Raft(g).Term() > w.Node(l).Raft(g).Term()) {
			l = n
		}
	}
	return l
}

func create(node, id int) api.Event {
	return api.Event{Kind: api.EvCall, Node: node, Call: api.Call{Id: id, Kind: api.CallVol, Cmd: api.VolCmd{Kind: api.Create, Vol: 1, Blocks: 2, Size: 1, Per: 1, Place: []int{1, 1}}}}
}

// P20.1
func TestNew(t *testing.T) {
	for i, x := range []struct {
		nodes, groups, sectors, isNodes, isGroups int
		e                                         api.Errno
	}{
		{3, 2, 99, 3, 2, api.OK}, {0, 0, 99, 1, 1, api.OK}, {math.MinInt, math.MinInt, 6, 1, 1, api.OK}, {8, 9, 34, 7, 8, api.OK}, {math.MaxInt, math.MaxInt, 99, 7, 8, api.OK},
		{1, 1, math.MaxInt, 1, 1, api.OK}, {1, 1, 5, 0, 0, api.ErrSpace}, {1, 1, -1, 0, 0, api.ErrSpace}, {7, 8, 33, 0, 0, api.ErrSpace},
	} {
		w, e := cluster.New(x.nodes, x.groups, x.sectors)
		if e != x.e || (w == nil) != (e != api.OK) {
			t.Errorf("New %d: %d", i, e)
		}
		if w == nil {
			continue
		}
		if w.Nodes() != x.isNodes || w.Groups() != x.isGroups || len(w.Flights()) != 0 {
			t.Errorf("New %d: %d nodes, %d groups", i, w.Nodes(), w.Groups())
		}
		for _, n := range []int{-1, 0, x.isNodes - 1, x.isNodes, math.MaxInt, math.MinInt} {
			is := n >= 0 && n < x.isNodes
			if w.Up(n) != is || (w.Node(n) != nil) != is || (len(w.Sector(n, 0)) == api.Sector) != is || len(w.Sector(n, -1)) != 0 {
				t.Errorf("New %d: node %d", i, n)
			}
		}
		if got := len(w.Node(0).Raft(0).Conf()); got != x.isNodes {
			t.Errorf("New %d: %d members", i, got)
		}
	}
}

// P20.3
func TestErrors(t *testing.T) {
	w := world(t, 2, 1, 99)
	for _, n := range []int{-1, 2, math.MaxInt, math.MinInt} {
		for _, kind := range []int{api.EvCall, api.EvCrash, api.EvPower, api.EvStart} {
			fails(t, w, api.Event{Kind: kind, Node: n}, api.ErrNode)
		}
		for _, kind := range []int{api.EvArrive, api.EvTwice, api.EvDrop} {
			fails(t, w, api.Event{Kind: kind, N: n}, api.ErrFlight)
		}
	}
	for _, kind := range []int{-1, 9, math.MaxInt, math.MinInt} {
		fails(t, w, api.Event{Kind: kind}, api.ErrForm)
	}
	fails(t, w, api.Event{Kind: api.EvStart, Node: 1}, api.ErrNode)
	do(t, w, api.Event{Kind: api.EvCrash, Node: 1})
	for _, kind := range []int{api.EvCall, api.EvCrash, api.EvPower} {
		fails(t, w, api.Event{Kind: kind, Node: 1}, api.ErrNode)
	}
	if w.Up(1) || w.Node(1) != nil || !w.Up(0) {
		t.Error("EvCrash")
	}
}

// P20.2, P20.3
func TestTickAndArrive(t *testing.T) {
	w := world(t, 3, 2, 400)
	for len(w.Flights()) == 0 {
		do(t, w, api.Event{Kind: api.EvTick})
	}
	l := w.Flights()
	if len(l) != 4 || l[0].From != l[3].From || l[0].To == l[0].From {
		t.Fatalf("under way: %v", l)
	}
	m, e := msg.Read(l[2].Bytes)
	if e != api.OK || m.Kind != api.PreVote || m.Group != 1 || m.From != l[2].From || m.To != l[2].To {
		t.Errorf("a word: %+v, %d", m, e)
	}
	l[0].Bytes[0]++
	do(t, w, api.Event{Kind: api.EvTwice, N: 2})
	do(t, w, api.Event{Kind: api.EvDrop, N: 0})
	got := w.Flights()
	if len(got) != 4 || !reflect.DeepEqual(got[1], got[3]) || !reflect.DeepEqual(got[1], l[2]) || reflect.DeepEqual(got[0], l[0]) {
		t.Errorf("under way: %v", got)
	}
	do(t, w, api.Event{Kind: api.EvArrive, N: 1})
	got = w.Flights()
	if m, e := msg.Read(got[3].Bytes); len(got) != 4 || e != api.OK || m.Kind != api.PreOk || m.From != l[2].To || m.To != l[2].From {
		t.Errorf("an answer: %+v, %d", m, e)
	}
	rounds(t, w, 60)
	if lead(w, 0) < 0 || lead(w, 1) < 0 {
		t.Error("nobody leads")
	}
}

// P20.2, P20.3
func TestCall(t *testing.T) {
	w := world(t, 3, 2, 400)
	rounds(t, w, 60)
	l := lead(w, 0)
	other := (l + 1) % 3
	if got := do(t, w, create(other, 7)); !reflect.DeepEqual(got, []api.Answer{{Id: 7, Node: other, Reply: api.Reply{Code: api.ErrLeader}}}) {
		t.Errorf("answers: %v", got)
	}
	if got := do(t, w, create(l, 8)); len(got) != 0 {
		t.Errorf("answers: %v", got)
	}
	if got := rounds(t, w, 3); !reflect.DeepEqual(got, []api.Answer{{Id: 8, Node: l}}) {
		t.Errorf("answers: %v", got)
	}
}

// P20.3
func TestSplit(t *testing.T) {
	w := world(t, 3, 1, 400)
	rounds(t, w, 60)
	old := lead(w, 0)
	do(t, w, api.Event{Kind: api.EvSplit, Mask: 1 << old})
	if got := append(do(t, w, create(old, 1)), rounds(t, w, 60)...); len(got) != 0 {
		t.Errorf("answers: %v", got)
	}
	now := lead(w, 0)
	if now == old {
		t.Fatal("the parted one leads")
	}
	if got := append(do(t, w, create(now, 2)), rounds(t, w, 5)...); len(got) != 1 || got[0].Id != 2 {
		t.Errorf("answers: %v", got)
	}
	if _, ok := w.Node(old).Volume(1); ok {
		t.Error("the parted one knows")
	}
	do(t, w, api.Event{Kind: api.EvSplit, Mask: 1<<63 | 7})
	rounds(t, w, 10)
	if _, ok := w.Node(old).Volume(1); !ok {
		t.Error("the parted one doesn't know, though it isn't parted any more")
	}
}

// P20.3: what comes to one that is down is gone.
func TestDown(t *testing.T) {
	w := world(t, 3, 1, 400)
	for len(w.Flights()) == 0 {
		do(t, w, api.Event{Kind: api.EvTick})
	}
	to := w.Flights()[0].To
	do(t, w, api.Event{Kind: api.EvCrash, Node: to})
	do(t, w, api.Event{Kind: api.EvArrive})
	if l := w.Flights(); len(l) != 1 || l[0].To == to {
		t.Errorf("under way: %v", l)
	}
	rounds(t, w, 60)
	do(t, w, api.Event{Kind: api.EvStart, Node: to})
	if rounds(t, w, 60); !w.Up(to) || w.Node(to).Raft(0).Lead() != lead(w, 0) || lead(w, 0) < 0 {
		t.Error("it doesn't follow")
	}
}

// P20.2, P20.3: when the power goes, what the node said is gone, and it is down.
func TestPower(t *testing.T) {
	w := world(t, 1, 1, 400)
	rounds(t, w, 30)
	do(t, w, api.Event{Kind: api.EvPower, N: 2})
	if got := do(t, w, create(0, 1)); len(got) != 0 || w.Up(0) {
		t.Errorf("answers: %v, up: %v", got, w.Up(0))
	}
	fails(t, w, api.Event{Kind: api.EvPower, N: 1}, api.ErrNode)
	do(t, w, api.Event{Kind: api.EvStart, Mask: math.MaxUint64, N: -1})
	rounds(t, w, 30)
	if _, ok := w.Node(0).Volume(1); !ok {
		t.Error("what was saved isn't there")
	}
	do(t, w, api.Event{Kind: api.EvPower, N: 0})
	if !w.Up(0) {
		t.Error("it is down ahead of doing anything")
	}
	do(t, w, api.Event{Kind: api.EvTick})
	if w.Up(0) {
		t.Error("it isn't down")
	}
	do(t, w, api.Event{Kind: api.EvTick})
	w = world(t, 2, 1, 400)
	for len(w.Flights()) == 0 {
		do(t, w, api.Event{Kind: api.EvTick})
	}
	f := w.Flights()[0]
	do(t, w, api.Event{Kind: api.EvPower, Node: f.To, N: 0})
	do(t, w, api.Event{Kind: api.EvArrive})
	if w.Up(f.To) || len(w.Flights()) != 0 {
		t.Error("one without power answers")
	}
}

// P20.3: EvStart hands Mask and N to the crash.
func TestStart(t *testing.T) {
	crash := func(mask uint64, n int) *cluster.World {
		w := world(t, 1, 1, 400)
		rounds(t, w, 30)
		do(t, w, api.Event{Kind: api.EvPower, N: 1})
		do(t, w, create(0, 1))
		do(t, w, api.Event{Kind: api.EvStart, Mask: mask, N: n})
		rounds(t, w, 30)
		return w
	}
	for i, x := range []struct {
		mask  uint64
		n     int
		there bool
	}{{0, -1, false}, {2, -1, false}, {1, 64, true}, {1, -1, true}, {1, 63, true}, {1, 10, false}} {
		if _, ok := crash(x.mask, x.n).Node(0).Volume(1); ok != x.there {
			t.Errorf("crash %d: %v", i, ok)
		}
	}
	d := pdisk.New(400)
	if w := world(t, 2, 1, 400); bytes.Equal(w.Sector(1, 0), d.Read(0)) || len(w.Sector(1, 400)) != 0 || !bytes.Equal(w.Sector(1, 399), d.Read(399)) {
		t.Error("Sector")
	}
}

// P20.4: the same happens again.
func TestSameAgain(t *testing.T) {
	var first []api.Flight
	for range 3 {
		w := world(t, 5, 8, 300)
		rounds(t, w, 40)
		do(t, w, api.Event{Kind: api.EvTick})
		if first == nil {
			first = w.Flights()
		}
		if !reflect.DeepEqual(first, w.Flights()) {
			t.Fatal("another time, other words")
		}
	}
}
