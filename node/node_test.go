package node_test

import (
	"math"
	"reflect"
	"slices"
	"testing"

	"memento/api"
	"memento/chunk"
	"memento/entry"
	"memento/msm"
	"memento/node"
	"memento/pdisk"
	"memento/raft"
	"memento/volume"
)

func item(block int, data string) api.Item {
	return api.Item{Block: block, Data: []byte(data)}
}

func create(id, total int, place ...int) api.VolCmd {
	return api.VolCmd{Kind: api.Create, Vol: id, Blocks: 3, Size: 1, Per: 2, Place: place, Total: total}
}

func put(id int, l ...api.Item) api.VolCmd {
	return api.VolCmd{Kind: api.Put, Vol: id, Items: l}
}

func call(id int, c api.VolCmd) api.Call {
	return api.Call{Id: id, Kind: api.CallVol, Cmd: c}
}

func read(id, vol, block int, at int64) api.Call {
	return api.Call{Id: id, Kind: api.CallRead, Vol: vol, Block: block, At: at}
}

func open(t *testing.T, id, nodes, groups int, d *pdisk.Disk) *node.Node {
	t.Helper()
	x, e := node.New(id, nodes, groups, d)
	if e != api.OK {
		t.Fatalf("New: %d", e)
	}
	return x
}

// answers: what s answers, as Code of each Id, and nothing else of s.
func answers(t *testing.T, what string, s node.Step, want ...api.Answer) {
	t.Helper()
	if len(s.Answers) != len(want) || len(want) > 0 && !reflect.DeepEqual(s.Answers, want) {
		t.Errorf("%s: %+v", what, s.Answers)
	}
}

func failed(id int, e api.Errno) api.Answer {
	return api.Answer{Id: id, Reply: api.Reply{Code: e}}
}

// told: those of l that are of kind.
func told(l []api.Msg, kind int) []api.Msg {
	var of []api.Msg
	for _, m := range l {
		if m.Kind == kind {
			of = append(of, m)
		}
	}
	return of
}

// alone: a node alone, that leads all its groups.
func alone(t *testing.T, groups, sectors int) (*node.Node, *pdisk.Disk) {
	t.Helper()
	d := pdisk.New(sectors)
	x := open(t, 0, 1, groups, d)
	for range 12 {
		x.Tick()
	}
	for g := range groups {
		if x.Raft(g).Role() != api.Leader {
			t.Fatal("it doesn't lead")
		}
	}
	return x, d
}

// P18.1
func TestNew(t *testing.T) {
	for i, x := range []struct {
		id, nodes, groups int
		d                 *pdisk.Disk
		e                 api.Errno
	}{{0, 1, 1, nil, api.ErrForm}, {0, 1, 1, pdisk.New(0), api.ErrSpace}, {0, 1, 8, pdisk.New(33), api.ErrSpace}, {0, 1, 8, pdisk.New(34), api.OK}} {
		if n, e := node.New(x.id, x.nodes, x.groups, x.d); e != x.e || (n == nil) != (e != api.OK) {
			t.Errorf("New %d: %d", i, e)
		}
	}
	dead := pdisk.New(99)
	dead.Power(3)
	if n, e := node.New(0, 1, 1, dead); n != nil || e != api.ErrDead {
		t.Errorf("New without power: %d", e)
	}
	for i, x := range []struct{ id, nodes, groups, isId, isNodes, isGroups int }{
		{math.MinInt, math.MinInt, math.MinInt, 0, 1, 1}, {9, 9, 9, 6, 7, 8}, {3, 2, 2, 1, 2, 2}, {-1, 3, 0, 0, 3, 1}, {math.MaxInt, math.MaxInt, math.MaxInt, 6, 7, 8},
	} {
		n := open(t, x.id, x.nodes, x.groups, pdisk.New(99))
		if got := n.Raft(0).Conf(); len(got) != x.isNodes || got[0] != 0 || got[x.isNodes-1] != x.isNodes-1 {
			t.Errorf("New %d: members %v", i, got)
		}
		if n.Raft(x.isGroups-1) == nil || n.Raft(x.isGroups) != nil || n.Raft(-1) != nil {
			t.Errorf("New %d: groups", i)
		}
		s := n.Recv(api.Msg{Kind: api.Vote, From: (x.isId + 1) % 7, To: x.isId, Term: 1})
		if len(s.Msgs) != 1 || s.Msgs[0].From != x.isId {
			t.Errorf("New %d: %+v", i, s)
		}
	}
}

// P18.1, P18.2: what was answered is there again when it is started anew, from the base, then from the log.
func TestStartedAnew(t *testing.T) {
	x, d := alone(t, 2, 400)
	x.Call(call(1, create(3, 0, 1, 1)))
	for i := range 20 {
		answers(t, "Put", x.Call(call(2+i, put(3, item(i%3, string(rune('a'+i)))))), api.Answer{Id: 2 + i, Reply: api.Reply{Len: int64(i) + 1}})
	}
	want, _ := x.Volume(3)
	m := x.Raft(0).Image()
	if m.Base.Index == 0 || len(m.Log) == 0 || len(m.Log) > api.Keep {
		t.Errorf("base %d, %d entries", m.Base.Index, len(m.Log))
	}
	d.Crash(0, 0)
	x = open(t, 0, 1, 2, d)
	if got := x.Raft(0).Image(); !entry.SameBase(got.Base, m.Base) || !slices.EqualFunc(got.Log, m.Log, entry.Same) {
		t.Errorf("image %v, not %v", got, m)
	}
	back, ok := x.Volume(3)
	loaded := msm.New()
	loaded.Load(m.Base.Data)
	if v, _ := loaded.Volume(3); !ok || !reflect.DeepEqual(back, v) {
		t.Errorf("the machine isn't as its base: %v", back)
	}
	for range 20 {
		x.Tick()
	}
	if got, _ := x.Volume(3); !reflect.DeepEqual(got, want) {
		t.Errorf("Volume: %v, not %v", got, want)
	}
}

// P18.2: Keep entries that are applied become the base.
func TestCompact(t *testing.T) {
	x, _ := alone(t, 1, 400)
	x.Call(call(1, create(0, 0, 1, 1)))
	for i := range 50 {
		m := x.Raft(0).Image()
		if want := (i + 2) / api.Keep * api.Keep; m.Base.Index != want || len(m.Log) != i+2-want {
			t.Fatalf("behind %d entries: base %d, %d entries", i+2, m.Base.Index, len(m.Log))
		}
		x.Call(call(2, api.VolCmd{Kind: api.Stat}))
	}
}

// P18.2: a base for which there is no room, or that may not be, is as if it hadn't been.
func TestNoRoomForBase(t *testing.T) {
	x, _ := alone(t, 1, 1<<14)
	x.Call(call(1, api.VolCmd{Kind: api.Create, Blocks: 8, Size: 32, Per: 8, Place: []int{1}}))
	var l []api.Item
	for b := range 8 {
		l = append(l, item(b, "0123456789abcdef0123456789abcdef"))
	}
	for range 130 {
		x.Call(call(1, put(0, l...)))
	}
	v, ok := x.Volume(0)
	m := x.Raft(0).Image()
	if !ok || len(v.Writes) != 130 || len(m.Log) <= api.Keep || len(m.Base.Data) > api.MaxBody/2 {
		t.Errorf("%d writes, %d entries, a base of %d bytes", len(v.Writes), len(m.Log), len(m.Base.Data))
	}
}

// P18.2, P18.5: what can't be saved doesn't count.
func TestNoRoom(t *testing.T) {
	x, d := alone(t, 1, 2+2*20)
	x.Call(call(1, create(0, 0, 1, 1)))
	n := 0
	for s := x.Call(call(1, put(0, item(0, "a")))); s.Answers[0].Reply.Code == api.OK; s = x.Call(call(1, put(0, item(0, "a")))) {
		n++
	}
	was := x.Raft(0).Image()
	s := x.Call(call(7, put(0, item(0, "a"))))
	answers(t, "Put without room", s, failed(7, api.ErrSpace))
	if v, _ := x.Volume(0); len(v.Writes) != n || n < 10 || len(s.Msgs) != 0 || !reflect.DeepEqual(x.Raft(0).Image(), was) {
		t.Errorf("%d writes, %d told", len(v.Writes), n)
	}
	answers(t, "Read of a chunk that isn't there", x.Call(read(8, 0, 0, 1)), failed(8, api.ErrBehind))
	d.Power(0)
	answers(t, "Put without room or power", x.Call(call(9, put(0, item(0, "a")))), failed(9, api.ErrSpace))
	x, d = alone(t, 1, 99)
	d.Power(0)
	answers(t, "Put without power", x.Call(call(9, put(0, item(0, "a")))), failed(9, api.ErrDead))
}

// P18.2: a turn that can't be saved has no Msgs, and is as if it hadn't been.
func TestTurnUnsaved(t *testing.T) {
	d := pdisk.New(99)
	x := open(t, 0, 3, 1, d)
	d.Power(0)
	s := x.Recv(api.Msg{Kind: api.Vote, From: 1, Term: 5})
	if len(s.Msgs) != 0 || x.Raft(0).Term() != 0 {
		t.Errorf("%+v, term %d", s, x.Raft(0).Term())
	}
	d.Crash(0, 0)
	s = x.Recv(api.Msg{Kind: api.Vote, From: 1, Term: 5})
	if len(s.Msgs) != 1 || !s.Msgs[0].Ok || x.Raft(0).Term() != 5 {
		t.Errorf("%+v, term %d", s, x.Raft(0).Term())
	}
}

// P18.5
func TestCallErrors(t *testing.T) {
	x := open(t, 0, 3, 2, pdisk.New(99))
	for i, c := range []struct {
		c api.Call
		e api.Errno
	}{
		{api.Call{Id: 5}, api.ErrForm}, {api.Call{Id: 5, Kind: 4}, api.ErrForm}, {api.Call{Id: 5, Kind: -1}, api.ErrForm},
		{call(5, api.VolCmd{}), api.ErrForm}, {call(5, api.VolCmd{Kind: api.Stat, Vol: 8}), api.ErrForm}, {call(5, api.VolCmd{Kind: api.Stat}), api.ErrLeader},
		{api.Call{Id: 5, Kind: api.CallConf, Group: 2, Node: 1}, api.ErrForm}, {api.Call{Id: 5, Kind: api.CallConf, Group: -1, Node: 1}, api.ErrForm},
		{api.Call{Id: 5, Kind: api.CallConf, Group: 1, Node: 3}, api.ErrForm}, {api.Call{Id: 5, Kind: api.CallConf, Group: 1, Node: -1}, api.ErrForm},
		{api.Call{Id: 5, Kind: api.CallConf, Group: 1, Node: 2}, api.ErrLeader}, {api.Call{Id: 5, Kind: api.CallConf, Group: 0, Node: 2, Add: true}, api.ErrLeader},
		{read(5, 0, 0, 0), api.ErrNone}, {read(5, -1, 0, 0), api.ErrNone},
	} {
		s := x.Call(c.c)
		answers(t, "call "+string(rune('a'+i)), s, failed(5, c.e))
		if len(s.Msgs) != 0 {
			t.Errorf("call %d: %+v", i, s.Msgs)
		}
	}
}

// P18.5
func TestCallRead(t *testing.T) {
	x, _ := alone(t, 2, 400)
	x.Call(call(1, create(2, 0, 1, 5)))
	x.Call(call(1, create(4, 2, 1, 1)))
	x.Call(call(1, put(2, item(0, "a"), item(2, "c"))))
	x.Call(call(1, put(2, item(1, "b"))))
	answers(t, "ahead of any push", x.Call(read(3, 2, 0, 0)), failed(3, api.ErrBehind))
	pushed(t, x)
	for _, c := range []struct {
		block int
		at    int64
		want  string
		e     api.Errno
	}{
		{0, 0, "\x00", api.OK}, {0, 1, "a", api.OK}, {1, 1, "\x00", api.OK}, {1, 2, "b", api.OK}, {0, 3, "", api.ErrBehind}, {0, -1, "", api.ErrPruned},
		{2, 1, "", api.ErrBehind}, {3, 1, "", api.ErrNone}, {-1, 1, "", api.ErrNone}, {math.MaxInt, 9, "", api.ErrNone}, {math.MinInt, 9, "", api.ErrNone},
	} {
		s := x.Call(read(3, 2, c.block, c.at))
		if len(s.Answers) != 1 || s.Answers[0].Id != 3 || s.Answers[0].Reply.Code != c.e || string(s.Answers[0].Reply.Data) != c.want || s.Answers[0].Reply.Len != 0 {
			t.Errorf("block %d at %d: %+v", c.block, c.at, s.Answers)
		}
	}
	answers(t, "a hidden one", x.Call(read(3, 4, 0, 0)), failed(3, api.ErrNone))
	answers(t, "none", x.Call(read(3, 3, 0, 0)), failed(3, api.ErrNone))
}

// pushed: a node alone ticks till it tells nothing more, and hears what it tells itself.
func pushed(t *testing.T, x *node.Node) {
	t.Helper()
	for range 30 {
		l := x.Tick().Msgs
		for len(l) > 0 {
			m := l[0]
			l = append(l[1:], x.Recv(m).Msgs...)
		}
	}
}

// P18.3
func TestPushes(t *testing.T) {
	x, _ := alone(t, 3, 1000)
	x.Call(call(1, create(2, 0, 2, 1)))
	x.Call(call(1, create(5, 3, 1, 7)))
	for i := range 6 {
		x.Call(call(1, put(2, item(i%3, "z"))))
	}
	for i := range 6 {
		l := x.Tick().Msgs
		if i%api.Every != 2 { // 12 ticks were ahead of these
			if len(l) != 0 {
				t.Errorf("tick %d: %+v", i, l)
			}
			continue
		}
		var want []api.Msg
		for _, k := range [][3]int{{2, 0, 2}, {2, 1, 1}, {5, 0, 1}, {5, 1, 7}} {
			v, _ := x.Volume(k[0])
			p, _ := volume.Push(v, k[1], 0)
			data, _ := chunk.PutPush(p)
			want = append(want, api.Msg{Kind: api.PushMsg, Group: k[2], Data: data})
		}
		if !reflect.DeepEqual(l, want) {
			t.Errorf("tick %d: %+v, not %+v", i, l, want)
		}
	}
	// What is told of a chunk: the next push begins there; of all and its floor: no push.
	mark := func(vol, chunk int, mark, floor int64) {
		x.Recv(api.Msg{Kind: api.MarkMsg, Vol: vol, Chunk: chunk, Mark: mark, Floor: floor})
	}
	mark(2, 0, 4, 0)
	mark(2, 0, 3, 0)
	mark(2, 1, 6, 0)
	mark(5, 0, 0, 0)
	var l []api.PushCmd
	for range 3 {
		for _, m := range x.Tick().Msgs {
			p, _ := chunk.ReadPush(m.Data)
			l = append(l, p)
		}
	}
	if len(l) != 2 || l[0].Vol != 2 || l[0].Chunk != 0 || l[0].From != 4 || l[0].To != 6 || l[1].Vol != 5 || l[1].Chunk != 1 {
		t.Errorf("pushes: %+v", l)
	}
}

// P18.3, P18.4: a chunk that knows all is told of a floor.
func TestPushesOfFloors(t *testing.T) {
	x, _ := alone(t, 3, 1000)
	x.Call(call(1, create(2, 0, 2, 1)))
	for i := range 6 {
		x.Call(call(1, put(2, item(i%3, "z"))))
	}
	pushed(t, x)
	x.Call(call(1, api.VolCmd{Kind: api.Prune, Vol: 2, At: 5}))
	var l []api.PushCmd
	for range 3 {
		for _, m := range told(x.Tick().Msgs, api.PushMsg) {
			if p, _ := chunk.ReadPush(m.Data); p.Vol == 2 {
				l = append(l, p)
			}
		}
	}
	if len(l) != 2 || l[0].From != 6 || l[0].To != 6 || l[0].Floor != 5 || l[1].Floor != 5 {
		t.Errorf("pushes of a floor: %+v", l)
	}
	pushed(t, x)
	for _, k := range [][3]int{{2, 2, 0}, {1, 2, 1}} {
		if c, ok := x.Chunk(k[0], k[1], k[2]); !ok || c.Mark != 6 || c.Floor != 5 {
			t.Errorf("chunk %v: %+v", k, c)
		}
	}
}

// P18.4
func TestPushMsg(t *testing.T) {
	x, _ := alone(t, 2, 1000)
	push := func(from, to, floor int64, seqs ...int64) api.Msg {
		p := api.PushCmd{Vol: 6, Chunk: 3, Count: 2, Size: 1, From: from, To: to, Floor: floor}
		for _, s := range seqs {
			p.Writes = append(p.Writes, api.Write{Seq: s, Items: []api.Item{item(1, string(rune('a'+s)))}})
		}
		data, e := chunk.PutPush(p)
		if e != api.OK {
			t.Fatal(e)
		}
		return api.Msg{Kind: api.PushMsg, Group: 1, From: 0, To: 0, Data: data}
	}
	index := func() int { m := x.Raft(1).Image(); return m.Base.Index + len(m.Log) }
	at := index()
	for i, m := range []api.Msg{{Kind: api.PushMsg, Group: 1, Data: []byte("junk")}, {Kind: api.PushMsg, Group: 0, Data: push(0, 1, 0).Data}, {Kind: api.PushMsg, Group: 2, Data: push(0, 1, 0).Data}, {Kind: api.PushMsg, Group: -1, Data: push(0, 1, 0).Data}} {
		if s := x.Recv(m); len(s.Msgs)+len(s.Answers) != 0 || index() != at {
			t.Errorf("push %d: %+v", i, s)
		}
	}
	if s := x.Recv(push(0, 2, 0, 1, 2)); len(s.Msgs) != 0 || index() != at+1 {
		t.Errorf("a push: %+v", s)
	}
	if c, ok := x.Chunk(1, 6, 3); !ok || c.Mark != 2 || len(c.Hist[1]) != 2 {
		t.Errorf("chunk: %+v, %v", c, ok)
	}
	from := push(0, 1, 0)
	from.From = 5
	if s := x.Recv(from); !reflect.DeepEqual(s.Msgs, []api.Msg{{Kind: api.MarkMsg, To: 5, Vol: 6, Chunk: 3, Mark: 2}}) || index() != at+1 {
		t.Errorf("a push of what is known: %+v", s)
	}
	// Behind the mark nothing comes of it, and it isn't proposed again in this term, nor one that is less.
	x.Recv(push(9, 12, 5))
	if index() != at+2 {
		t.Error("a push behind the mark isn't proposed")
	}
	for _, m := range []api.Msg{push(9, 12, 5), push(2, 12, 4), push(2, 11, 5), push(2, 3, 0, 3)} {
		if s := x.Recv(m); len(s.Msgs) != 0 || index() != at+2 {
			t.Errorf("proposed again: %+v", s)
		}
	}
	x.Recv(push(2, 13, 0))
	x.Recv(push(2, 9, 6))
	if c, _ := x.Chunk(1, 6, 3); index() != at+4 || c.Mark != 13 || c.Floor != 6 {
		t.Errorf("chunk: %+v", c)
	}
	if _, ok := x.Chunk(0, 6, 3); ok {
		t.Error("a chunk of group 0")
	}
	for _, k := range [][3]int{{2, 6, 3}, {-1, 6, 3}, {1, 6, 4}, {1, 5, 3}} {
		if c, ok := x.Chunk(k[0], k[1], k[2]); ok || !chunk.Same(c, api.Chunk{}) {
			t.Errorf("chunk %v: %+v", k, c)
		}
	}
}

// three nodes, the words between them, and what they answered.
type three struct {
	t     *testing.T
	x     []*node.Node
	under []api.Msg
	heard []api.Answer
	lost  int // a node that nothing comes to or from; below 0: none
}

func newThree(t *testing.T, groups int) *three {
	c := &three{t: t, lost: -1}
	for i := range 3 {
		c.x = append(c.x, open(t, i, 3, groups, pdisk.New(2000)))
	}
	return c
}

func (c *three) took(s node.Step) {
	c.heard = append(c.heard, s.Answers...)
	for _, m := range s.Msgs {
		if m.From != c.lost && m.To != c.lost {
			c.under = append(c.under, m)
		}
	}
}

func (c *three) rounds(n int) {
	for range n {
		for _, x := range c.x {
			c.took(x.Tick())
		}
		for range len(c.under) {
			m := c.under[0]
			c.under = c.under[1:]
			c.took(c.x[m.To].Recv(m))
		}
	}
}

// lead: who leads group g in the greatest term.
func (c *three) lead(g int) int {
	l := -1
	for i, x := range c.x {
		if r := x.Raft(g); r.Role() == api.Leader && (l < 0 || r.Term() > c.x[l].Raft(g).Term()) {
			l = i
		}
	}
	return l
}

// P18.2, P18.5, P18.6
func TestAnswers(t *testing.T) {
	c := newThree(t, 2)
	c.rounds(60)
	l := c.lead(0)
	if l < 0 || c.lead(1) < 0 {
		t.Fatal("nobody leads")
	}
	s := c.x[l].Call(call(1, create(0, 0, 1, 1)))
	answers(t, "not yet", s)
	c.took(s)
	c.took(c.x[l].Call(call(2, create(0, 0, 1, 1))))
	c.took(c.x[l].Call(call(3, put(0, item(0, "a")))))
	c.rounds(3)
	if want := []api.Answer{{Id: 1}, failed(2, api.ErrExists), {Id: 3, Reply: api.Reply{Len: 1}}}; !reflect.DeepEqual(c.heard, want) {
		t.Errorf("answers: %+v", c.heard)
	}
	c.rounds(30)
	for i, x := range c.x {
		if r := x.Call(read(9, 0, 0, 1)).Answers[0].Reply; r.Code != api.OK || string(r.Data) != "a" {
			t.Errorf("node %d reads %+v", i, r)
		}
	}
	// A member goes and comes; meanwhile another change is busy.
	c.heard = nil
	other := (c.lead(1) + 1) % 3
	go1 := api.Call{Id: 4, Kind: api.CallConf, Group: 1, Node: other}
	c.took(c.x[c.lead(1)].Call(go1))
	c.took(c.x[c.lead(1)].Call(api.Call{Id: 5, Kind: api.CallConf, Group: 1, Node: (other + 1) % 3}))
	c.rounds(5)
	go1.Id = 6
	c.took(c.x[c.lead(1)].Call(go1))
	go1.Id, go1.Add = 7, true
	c.took(c.x[c.lead(1)].Call(go1))
	c.rounds(5)
	if want := []api.Answer{failed(5, api.ErrBusy), {Id: 4}, failed(6, api.ErrBusy), {Id: 7}}; !reflect.DeepEqual(c.heard, want) {
		t.Errorf("answers: %+v", c.heard)
	}
	for i, x := range c.x {
		if !slices.Equal(x.Raft(1).Conf(), []int{0, 1, 2}) {
			t.Errorf("node %d: members %v", i, x.Raft(1).Conf())
		}
	}
}

// P18.2: what another leader's entry took the place of isn't answered.
func TestNotAnswered(t *testing.T) {
	c := newThree(t, 1)
	c.rounds(60)
	old := c.lead(0)
	c.lost = old
	c.took(c.x[old].Call(call(1, create(0, 0, 1, 1))))
	c.rounds(60)
	now := c.lead(0)
	c.took(c.x[now].Call(call(2, create(1, 0, 1, 1))))
	c.rounds(5)
	c.lost = -1
	c.rounds(20)
	if !reflect.DeepEqual(c.heard, []api.Answer{{Id: 2}}) {
		t.Errorf("answers: %+v", c.heard)
	}
	for i, x := range c.x {
		_, zero := x.Volume(0)
		if _, one := x.Volume(1); zero || !one {
			t.Errorf("node %d: %v, %v", i, zero, one)
		}
	}
}

// P18.2: who was away for long has the base of another one; what was asked of it is forgotten.
func TestRestore(t *testing.T) {
	c := newThree(t, 2)
	c.rounds(60)
	old := c.lead(0)
	c.took(c.x[old].Call(call(1, create(0, 0, 1, 1))))
	c.rounds(20)
	c.heard = nil
	c.lost = old
	for i := range 3 {
		c.took(c.x[old].Call(call(50+i, put(0, item(1, "x")))))
	}
	c.rounds(60)
	now := c.lead(0)
	for i := range 30 {
		c.took(c.x[now].Call(call(100+i, put(0, item(0, "y")))))
		c.rounds(1)
	}
	c.rounds(5)
	if r := c.x[now].Raft(0).Image(); r.Base.Index <= c.x[old].Raft(0).Commit()+3 {
		t.Fatal("there is no base to be installed")
	}
	n := len(c.heard)
	c.lost = -1
	c.rounds(20)
	want, _ := c.x[now].Volume(0)
	if got, _ := c.x[old].Volume(0); !reflect.DeepEqual(got, want) || len(want.Writes) != 30 {
		t.Errorf("Volume: %v", got)
	}
	if len(c.heard) != n || n != 30 {
		t.Errorf("answers: %+v", c.heard)
	}
	d := c.x[old].Raft(0).Image()
	m := msm.New()
	if !m.Load(d.Base.Data) || d.Base.Index == 0 {
		t.Error("the base isn't a machine's")
	}
}

// P18.3: who begins to lead knows of no mark.
func TestNobodyTold(t *testing.T) {
	c := newThree(t, 2)
	c.rounds(60)
	c.took(c.x[c.lead(0)].Call(call(1, create(0, 0, 1, 1))))
	c.took(c.x[c.lead(0)].Call(call(2, put(0, item(0, "a")))))
	c.rounds(40)
	old := c.lead(0)
	for range 3 {
		if l := told(c.x[old].Tick().Msgs, api.PushMsg); len(l) != 0 {
			t.Errorf("all is known, and pushed: %+v", l)
		}
	}
	for i, x := range c.x {
		x.Recv(api.Msg{Kind: api.MarkMsg, To: i, Vol: 0, Chunk: 0, Mark: 1, Floor: 0})
		x.Recv(api.Msg{Kind: api.MarkMsg, To: i, Vol: 0, Chunk: 1, Mark: 1, Floor: 0})
	}
	c.lost = old
	for range 60 {
		if c.rounds(1); c.lead(0) != old {
			break
		}
	}
	now := c.lead(0)
	if now == old {
		t.Fatal("nobody else leads")
	}
	var l []api.Msg
	for range 3 {
		s := c.x[now].Tick()
		l = append(l, told(s.Msgs, api.PushMsg)...)
		c.took(s)
	}
	if len(l) != 6 {
		t.Errorf("%d pushes", len(l))
	}
	for i, m := range l {
		if p, e := chunk.ReadPush(m.Data); e != api.OK || p.From != 0 || p.Chunk != i/3 || m.To != i%3 || m.From != now || m.Group != 1 {
			t.Errorf("push %d: %+v, of %+v", i, p, m)
		}
	}
}

// P18.4: no such group, nothing; kinds that aren't there, nothing.
func TestRecvOfNone(t *testing.T) {
	x := open(t, 0, 3, 2, pdisk.New(99))
	for _, g := range []int{-1, 2, math.MaxInt, math.MinInt} {
		for kind := range 12 {
			if s := x.Recv(api.Msg{Kind: kind, Group: g, From: 1, Term: 9}); len(s.Msgs)+len(s.Answers) != 0 {
				t.Errorf("group %d, kind %d: %+v", g, kind, s)
			}
		}
	}
	if s := x.Recv(api.Msg{Kind: 99, From: 1}); len(s.Msgs)+len(s.Answers) != 0 {
		t.Errorf("kind 99: %+v", s)
	}
}

// What is answered is new memory.
func TestShares(t *testing.T) {
	x, _ := alone(t, 2, 400)
	x.Call(call(1, create(2, 0, 1, 1)))
	c := call(1, put(2, item(0, "a")))
	x.Call(c)
	c.Cmd.Items[0].Data[0] = '!'
	pushed(t, x)
	v, _ := x.Volume(2)
	v.Writes[0].Items[0].Data[0] = '!'
	p, _ := x.Chunk(1, 2, 0)
	p.Hist[0][0].Data[0] = '!'
	x.Call(read(1, 2, 0, 1)).Answers[0].Reply.Data[0] = '!'
	x.Raft(0).Propose(api.Cmd, nil)
	if r := x.Call(read(1, 2, 0, 1)).Answers[0].Reply; string(r.Data) != "a" {
		t.Errorf("%+v", r)
	}
	if v, _ := x.Volume(2); string(v.Writes[0].Items[0].Data) != "a" {
		t.Errorf("%+v", v)
	}
	var _ *raft.Raft = x.Raft(0)
}
