package play_test

import (
	"bytes"
	"fmt"
	"math/rand"
	"reflect"
	"testing"

	"memento/api"
	"memento/chain"
	"memento/chunk"
	"memento/cluster"
	"memento/export"
	"memento/intake"
	"memento/model"
	"memento/msm"
	"memento/play"
	"memento/script"
	"memento/stream"
	"memento/volume"
)

func bytesOf(t *testing.T, c api.VolCmd) []byte {
	t.Helper()
	b, e := msm.PutCmd(c)
	if e != api.OK {
		t.Fatal(e)
	}
	return b
}

func pushOf(t *testing.T, p api.PushCmd) []byte {
	t.Helper()
	b, e := chunk.PutPush(p)
	if e != api.OK {
		t.Fatal(e)
	}
	return b
}

// story: a world, all that happened to it, all that was asked and told, and what its nodes had.
type story struct {
	t        *testing.T
	rng      *rand.Rand
	w        *cluster.World
	nodes    int
	groups   int
	sectors  int
	events   []api.Event
	answers  []api.Answer
	tales    map[int]*model.Tale
	reads    map[int]api.Call
	step     int
	longest  map[int]api.Volume
	told     []api.Answer // of reads, without error
	failures bool         // whether nodes, disks, words may fail
}

func newStory(t *testing.T, seed int64, nodes, groups, sectors int) *story {
	t.Helper()
	w, _, e := play.Run(nodes, groups, sectors)
	if e != api.OK {
		t.Fatal(e)
	}
	return &story{t: t, rng: rand.New(rand.NewSource(seed)), w: w, nodes: nodes, groups: groups, sectors: sectors, tales: map[int]*model.Tale{}, reads: map[int]api.Call{}, longest: map[int]api.Volume{}}
}

// do: e happens; all that must hold always holds behind it.
func (s *story) do(e api.Event) {
	s.t.Helper()
	if e.Kind == api.EvCall {
		id := len(s.tales) + len(s.reads) + 1
		e.Call.Id = id
		if e.Call.Kind == api.CallVol {
			s.tales[id] = &model.Tale{Id: id, Cmd: e.Call.Cmd, From: s.step, To: -1}
		} else {
			s.reads[id] = e.Call
		}
	}
	l, _ := s.w.Do(e)
	s.events, s.answers = append(s.events, e), append(s.answers, l...)
	for _, a := range l {
		if tale, ok := s.tales[a.Id]; ok {
			if tale.To >= 0 {
				s.t.Fatalf("call %d is answered twice", a.Id)
			}
			tale.To, tale.Reply = s.step, a.Reply
		} else if s.reads[a.Id].Kind == api.CallRead && a.Reply.Code == api.OK {
			s.told = append(s.told, a)
		}
	}
	s.step++
	s.look()
}

// look: P40.3: all volumes are parts of the longest one that ever was.
func (s *story) look() {
	s.t.Helper()
	for n := range s.nodes {
		if !s.w.Up(n) {
			continue
		}
		for id := range api.MaxVols {
			v, ok := s.w.Node(n).Volume(id)
			if !ok {
				continue
			}
			was, had := s.longest[id]
			if had && !model.Prefix(v, was) && !model.Prefix(was, v) {
				s.t.Fatalf("step %d: node %d has another volume %d", s.step, n, id)
			}
			if !had || volume.Len(v) > volume.Len(was) {
				s.longest[id] = v
			}
		}
	}
}

func (s *story) whole() {
	s.t.Helper()
	if !play.Whole(s.w) {
		s.t.Fatalf("step %d: it isn't whole", s.step)
	}
}

func (s *story) data() string {
	return string([]byte{byte('a' + s.rng.Intn(26)), byte('a' + s.rng.Intn(26))})
}

func (s *story) items() []api.Item {
	var l []api.Item
	for _, b := range s.rng.Perm(5)[:1+s.rng.Intn(3)] {
		l = append(l, item(b, s.data()))
	}
	return l
}

// cmd: some call to group 0.
func (s *story) cmd() api.VolCmd {
	vol := s.rng.Intn(2)
	at := int64(s.rng.Intn(1 + len(s.longest[vol].Writes)))
	switch k := s.rng.Intn(40); {
	case k < 4:
		place := make([]int, 3)
		for i := range place {
			place[i] = 1 + s.rng.Intn(max(s.groups-1, 1))
		}
		return api.VolCmd{Kind: api.Create, Vol: vol, Blocks: 5, Size: 2, Per: 2, Place: place}
	case k < 7:
		return api.VolCmd{Kind: api.Stat, Vol: vol}
	case k < 9:
		return api.VolCmd{Kind: api.Prune, Vol: vol, At: at}
	case k < 10:
		return api.VolCmd{Kind: api.Pin, Vol: vol, At: at}
	case k < 11:
		return api.VolCmd{Kind: api.Unpin, Vol: vol, At: at}
	}
	return put(vol, s.items()...)
}

// call: some call to some node, mostly one that leads.
func (s *story) call() api.Event {
	n := s.rng.Intn(s.nodes)
	if l := play.Leader(s.w, 0); l >= 0 && s.rng.Intn(4) > 0 {
		n = l
	}
	c := api.Call{Kind: api.CallVol, Cmd: s.cmd()}
	switch k := s.rng.Intn(20); {
	case k < 4:
		vol := s.rng.Intn(2)
		c = api.Call{Kind: api.CallRead, Vol: vol, Block: s.rng.Intn(6), At: int64(s.rng.Intn(2 + len(s.longest[vol].Writes)))}
	case k < 6 && s.failures:
		c = api.Call{Kind: api.CallConf, Group: s.rng.Intn(s.groups), Node: s.rng.Intn(s.nodes), Add: s.rng.Intn(3) > 0}
		if l := play.Leader(s.w, c.Group); l >= 0 {
			n = l
		}
	}
	return api.Event{Kind: api.EvCall, Node: n, Call: c}
}

// some: an event.
func (s *story) some() api.Event {
	k, n, words := s.rng.Intn(100), s.rng.Intn(s.nodes), len(s.w.Flights())
	switch {
	case k < 15:
		return api.Event{Kind: api.EvTick}
	case k < 65:
		if s.rng.Intn(3) > 0 {
			words = min(words, 1)
		}
		return api.Event{Kind: api.EvArrive, N: s.rng.Intn(words + 1)}
	case k < 85 || !s.failures:
		return s.call()
	case k < 88:
		return api.Event{Kind: api.EvTwice, N: s.rng.Intn(words + 1)}
	case k < 91:
		return api.Event{Kind: api.EvDrop, N: s.rng.Intn(words + 1)}
	case k < 92:
		return api.Event{Kind: api.EvCrash, Node: n}
	case k < 94:
		return api.Event{Kind: api.EvPower, Node: n, N: s.rng.Intn(40)}
	case k < 98:
		return api.Event{Kind: api.EvStart, Node: n, Mask: s.rng.Uint64(), N: s.rng.Intn(70) - 1}
	case k < 99:
		return api.Event{Kind: api.EvSplit, Mask: s.rng.Uint64()}
	}
	return api.Event{Kind: api.EvSplit}
}

// rounds: as play.Fair, each step looked at.
func (s *story) rounds(n int) {
	s.t.Helper()
	for range n {
		s.do(api.Event{Kind: api.EvTick})
		for range len(s.w.Flights()) {
			s.do(api.Event{Kind: api.EvArrive})
		}
		s.whole()
	}
}

// mend: all nodes are up, and nothing is parted.
func (s *story) mend() {
	s.t.Helper()
	s.do(api.Event{Kind: api.EvSplit})
	for n := range s.nodes {
		if s.w.Up(n) { // it may have lost its power, and not know it yet
			s.do(api.Event{Kind: api.EvCrash, Node: n})
		}
		s.do(api.Event{Kind: api.EvStart, Node: n, Mask: s.rng.Uint64(), N: -1})
		if !s.w.Up(n) {
			s.t.Fatalf("node %d doesn't start", n)
		}
	}
}

// ordered: P40.1, P40.2.
func (s *story) ordered() {
	s.t.Helper()
	var l []model.Tale
	for _, tale := range s.tales {
		l = append(l, *tale)
	}
	for id, v := range s.longest {
		if !model.Ordered(l, v) {
			s.t.Fatalf("no order explains volume %d", id)
		}
	}
	for _, a := range s.told {
		c := s.reads[a.Id]
		v := s.longest[c.Vol]
		v.Floor = 0
		state, e := volume.State(v, c.At)
		if e != api.OK || !bytes.Equal(state[c.Block], a.Reply.Data) {
			s.t.Fatalf("call %d reads %q of block %d at %d, not %q", a.Id, a.Reply.Data, c.Block, c.At, state[c.Block])
		}
	}
}

// led: P40.7: each group has one leader.
func (s *story) led() {
	s.t.Helper()
	for g := range s.groups {
		top := play.Leader(s.w, g)
		if top < 0 {
			s.t.Fatalf("nobody leads group %d", g)
		}
		for n := range s.nodes {
			if n != top && s.w.Node(n).Raft(g).Role() == api.Leader {
				s.t.Fatalf("%d and %d lead group %d", n, top, g)
			}
		}
	}
}

// ask: c is asked of who leads group 0, and answered within the rounds of P40.7.
func (s *story) ask(c api.VolCmd) api.Reply {
	s.t.Helper()
	id := len(s.tales) + len(s.reads) + 1
	s.do(api.Event{Kind: api.EvCall, Node: play.Leader(s.w, 0), Call: api.Call{Kind: api.CallVol, Cmd: c}})
	for range play.Bound(s.nodes) {
		if s.tales[id].To >= 0 {
			break
		}
		s.rounds(1)
	}
	if s.tales[id].To < 0 {
		s.t.Fatalf("call %d is never answered", id)
	}
	return s.tales[id].Reply
}

// settle: all is up again: what P40.3, P40.7 say then.
func (s *story) settle() {
	s.t.Helper()
	floors := s.floors()
	s.mend()
	s.rounds(play.Bound(s.nodes))
	s.led()
	for id := range 2 {
		s.ask(api.VolCmd{Kind: api.Stat, Vol: id})
	}
	s.ordered()
	most := 0
	for _, v := range s.longest {
		most = max(most, len(v.Writes))
	}
	pushes := (most + api.Push - 1) / api.Push
	for range play.Bound(s.nodes) * (pushes + 1) {
		if s.allKnow() {
			break
		}
		s.rounds(1)
	}
	if !s.allKnow() {
		s.t.Fatal("not all chunks know all")
	}
	for id, v := range s.longest {
		now, ok := s.w.Node(play.Leader(s.w, 0)).Volume(id)
		if !ok || !model.Prefix(v, now) || now.Floor < floors[id] {
			s.t.Fatalf("volume %d isn't there again", id)
		}
	}
	s.whole()
}

// floors: the greatest ones that were told, or that a chunk has.
func (s *story) floors() map[int]int64 {
	l := map[int]int64{}
	for _, tale := range s.tales {
		if tale.To >= 0 && tale.Reply.Code == api.OK {
			l[tale.Cmd.Vol] = max(l[tale.Cmd.Vol], tale.Reply.Floor)
		}
	}
	return l
}

// allKnow: do all chunks of all members know all writes?
func (s *story) allKnow() bool {
	lead := play.Leader(s.w, 0)
	if lead < 0 {
		return false
	}
	for id := range api.MaxVols {
		v, ok := s.w.Node(lead).Volume(id)
		for i := 0; ok && i < len(v.Place); i++ {
			g := v.Place[i]
			top := play.Leader(s.w, g)
			if top < 0 {
				return false
			}
			for _, n := range s.w.Node(top).Raft(g).Conf() {
				if c, is := s.w.Node(n).Chunk(g, id, i); !is || c.Mark != volume.Len(v) || c.Floor != v.Floor {
					return false
				}
			}
		}
	}
	return true
}

// sizes: of the worlds that stories are of.
var sizes = [][3]int{{3, 2, 2000}, {1, 2, 2000}, {5, 3, 2000}, {2, 2, 2000}, {4, 4, 2000}, {7, 2, 2000}, {3, 3, 700}}

// P40.1, P40.2, P40.3, P40.6, P40.7
func TestWhateverHappens(t *testing.T) {
	for seed := range int64(21) {
		x := sizes[seed%int64(len(sizes))]
		t.Run(fmt.Sprint(seed), func(t *testing.T) {
			s := newStory(t, seed, x[0], x[1], x[2])
			s.failures = seed%3 > 0
			for range 2 {
				for i := range 400 {
					s.do(s.some())
					if i%10 == 0 {
						s.whole()
					}
				}
				s.settle()
			}
		})
	}
}

// P40.8: the same script, and the same printed and read again, tells the same.
func TestSameAgain(t *testing.T) {
	s := newStory(t, 7, 3, 2, 2000)
	s.failures = true
	for range 1500 {
		s.do(s.some())
	}
	text := script.Print(s.events...)
	back, _, e := script.Parse(text)
	if e != api.OK || len(back) != len(s.events) || script.Print(back...) != text {
		t.Fatalf("a script isn't read as it was printed: %d", e)
	}
	for _, l := range [][]api.Event{s.events, back} {
		w, answers, e := play.Run(3, 2, 2000, l...)
		if e != api.OK || !reflect.DeepEqual(answers, s.answers) || !reflect.DeepEqual(w.Flights(), s.w.Flights()) {
			t.Fatal("another time it tells something else")
		}
		for n := range 3 {
			for i := range 2000 {
				if !bytes.Equal(w.Sector(n, i), s.w.Sector(n, i)) {
					t.Fatalf("node %d has another sector %d", n, i)
				}
			}
		}
	}
}

// P40.4: what was taken home is brought back.
func TestBackup(t *testing.T) {
	for seed := range int64(6) {
		s := newStory(t, 100+seed, 3, 4, 4000)
		s.rounds(play.Bound(3))
		s.ask(api.VolCmd{Kind: api.Create, Vol: 0, Blocks: 5, Size: 2, Per: 2, Place: []int{1, 2, 3}})
		var l []api.Stream
		var states [][][]byte
		from := int64(-1)
		for range 4 {
			for range s.rng.Intn(6) {
				s.ask(put(0, s.items()...))
			}
			for range 100 {
				if s.allKnow() {
					break
				}
				s.rounds(1)
			}
			v, chunks, e := export.Gather(s.w, 0)
			if e != api.OK {
				t.Fatal(e)
			}
			to := volume.Len(v)
			one, e := export.Full(v, chunks, to)
			if from >= 0 {
				one, e = export.Since(v, chunks, from, to)
			}
			if e != api.OK {
				t.Fatalf("a backup to %d: %d", to, e)
			}
			if from = to; s.rng.Intn(2) == 0 {
				s.ask(api.VolCmd{Kind: api.Prune, Vol: 0, At: to})
			}
			state, _ := volume.State(v, to)
			l, states = append(l, one), append(states, state)
		}
		i := s.rng.Intn(3)
		merged, e := chain.Merge(l[i], l[i+1])
		if e != api.OK {
			t.Fatal(e)
		}
		parted := append(append(append([]api.Stream{}, l[:i]...), merged), l[i+2:]...)
		whole, e := chain.All(parted...)
		if again, _ := chain.All(l...); e != api.OK || !stream.Same(whole, again) {
			t.Fatalf("All: %d", e)
		}
		s.bring(whole, states[3])
	}
}

// bring: a full stream becomes volume 5, cut off by a crash on the way.
func (s *story) bring(full api.Stream, state [][]byte) {
	s.t.Helper()
	plan, e := intake.Plan(full, 5, 3, []int{2, 1}, 1+s.rng.Intn(4))
	if e != api.OK {
		s.t.Fatal(e)
	}
	for _, c := range plan[:s.rng.Intn(len(plan))] {
		s.ask(c)
	}
	s.do(api.Event{Kind: api.EvCrash, Node: play.Leader(s.w, 0)})
	s.mend()
	s.rounds(play.Bound(3))
	v, there := s.w.Node(play.Leader(s.w, 0)).Volume(5)
	var last api.Reply
	for _, c := range intake.Rest(plan, v, there) {
		if last = s.ask(c); last.Code != api.OK {
			s.t.Fatalf("%v: %d", c, last.Code)
		}
	}
	v, _ = s.w.Node(play.Leader(s.w, 0)).Volume(5)
	if !intake.Done(plan, v) {
		s.t.Fatal("the plan isn't done")
	}
	s.rounds(60)
	for n := range s.nodes {
		for b, want := range state {
			l, _ := s.w.Do(api.Event{Kind: api.EvCall, Node: n, Call: api.Call{Kind: api.CallRead, Vol: 5, Block: b, At: last.Len}})
			if len(l) != 1 || l[0].Reply.Code != api.OK || !bytes.Equal(l[0].Reply.Data, want) {
				s.t.Errorf("node %d: block %d is %+v, not %q", n, b, l, want)
			}
		}
	}
}
