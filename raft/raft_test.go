package raft_test

import (
	"math"
	"slices"
	"testing"

	"memento/api"
	"memento/elect"
	"memento/entry"
	"memento/raft"
)

const (
	me    = 1
	group = 2
)

func cmd(index, term int) api.Entry {
	return api.Entry{Index: index, Term: term, Kind: api.Cmd, Data: []byte{byte(index)}}
}

func noop(index, term int) api.Entry {
	return api.Entry{Index: index, Term: term}
}

// image: of a log of these terms, in term.
func image(term int, terms ...int) api.Image {
	m := api.Image{Hard: api.Hard{Term: term, Vote: -1}, Base: api.Base{Conf: []int{0, 1, 2}}}
	for i, t := range terms {
		m.Log = append(m.Log, cmd(i+1, t))
	}
	return m
}

// based: the same behind a base at Index 10 of Term 3.
func based(term int, terms ...int) api.Image {
	m := image(term, terms...)
	m.Base.Index, m.Base.Term, m.Base.Data = 10, 3, []byte("base")
	for i := range m.Log {
		m.Log[i].Index += 10
	}
	return m
}

func to(n int, m api.Msg) api.Msg {
	m.Group, m.From, m.To = group, me, n
	return m
}

func from(n int, m api.Msg) api.Msg {
	m.Group, m.From, m.To = group, n, me
	return m
}

// others: m to nodes 0 and 2.
func others(m api.Msg) []api.Msg {
	return []api.Msg{to(0, m), to(2, m)}
}

func hard(term, vote int) api.Rec {
	return api.Rec{Group: group, Kind: api.RecHard, Hard: api.Hard{Term: term, Vote: vote}}
}

func added(e api.Entry) api.Rec {
	return api.Rec{Group: group, Kind: api.RecEntry, Entry: e}
}

func sameMsg(a, b api.Msg) bool {
	return a.Kind == b.Kind && a.Group == b.Group && a.From == b.From && a.To == b.To && a.Term == b.Term && a.Index == b.Index && a.LogTerm == b.LogTerm &&
		a.Commit == b.Commit && a.Ok == b.Ok && slices.EqualFunc(a.Entries, b.Entries, entry.Same) && entry.SameBase(a.Base, b.Base) && len(a.Data)+len(b.Data) == 0 &&
		a.Vol == b.Vol && a.Chunk == b.Chunk && a.Mark == b.Mark && a.Floor == b.Floor
}

func sameRec(a, b api.Rec) bool {
	return a.Group == b.Group && a.Kind == b.Kind && a.Hard == b.Hard && entry.Same(a.Entry, b.Entry) && entry.SameBase(a.Base, b.Base)
}

func sameImage(a, b api.Image) bool {
	return a.Hard == b.Hard && entry.SameBase(a.Base, b.Base) && slices.EqualFunc(a.Log, b.Log, entry.Same)
}

func out(t *testing.T, what string, o raft.Out, recs []api.Rec, msgs []api.Msg) {
	t.Helper()
	if !slices.EqualFunc(o.Recs, recs, sameRec) || !slices.EqualFunc(o.Msgs, msgs, sameMsg) || o.Restore {
		t.Errorf("%s: %+v", what, o)
	}
}

func state(t *testing.T, what string, r *raft.Raft, role, term, lead, commit int) {
	t.Helper()
	if r.Role() != role || r.Term() != term || r.Lead() != lead || r.Commit() != commit {
		t.Errorf("%s: role %d, term %d, lead %d, commit %d", what, r.Role(), r.Term(), r.Lead(), r.Commit())
	}
}

// ticks: n ticks that nothing comes of.
func ticks(t *testing.T, r *raft.Raft, n int) {
	t.Helper()
	for i := range n {
		out(t, "tick "+string(rune('a'+i)), r.Tick(), nil, nil)
	}
}

// asking: r ticks till it asks.
func asking(t *testing.T, r *raft.Raft) raft.Out {
	t.Helper()
	ticks(t, r, elect.Timeout(me, r.Term())-1)
	return r.Tick()
}

// standing: a Candidate of term 5, made of image(4, terms).
func standing(t *testing.T, m api.Image) *raft.Raft {
	t.Helper()
	r := raft.New(me, group, m)
	asking(t, r)
	r.Recv(from(0, api.Msg{Kind: api.PreOk, Term: r.Term() + 1, Ok: true}))
	return r
}

// leading: such a one that was voted for.
func leading(t *testing.T, m api.Image) *raft.Raft {
	t.Helper()
	r := standing(t, m)
	r.Recv(from(2, api.Msg{Kind: api.VoteOk, Term: r.Term(), Ok: true}))
	if r.Role() != api.Leader {
		t.Fatal("it doesn't lead")
	}
	return r
}

func appended(n, term, index int) api.Msg {
	return from(n, api.Msg{Kind: api.AppendOk, Term: term, Ok: true, Index: index})
}

// P12.1
func TestNew(t *testing.T) {
	m := based(4, 3, 4)
	r := raft.New(me, group, m)
	state(t, "New", r, api.Follower, 4, -1, 10)
	if !sameImage(r.Image(), m) || !slices.Equal(r.Conf(), []int{0, 1, 2}) || len(r.Ready()) != 0 {
		t.Errorf("New: %v, %v", r.Image(), r.Conf())
	}
	m.Log[0].Data[0], m.Base.Conf[0] = 99, 6
	got := r.Image()
	got.Log[1].Data[0], got.Base.Data[0] = 99, 99
	r.Conf()[0] = 6
	if !sameImage(r.Image(), based(4, 3, 4)) || r.Conf()[0] != 0 {
		t.Error("New, Image or Conf share")
	}
	m = image(1)
	m.Log = []api.Entry{{Index: 1, Kind: api.Conf, Data: []byte{5, 1}}, {Index: 2, Kind: api.Conf, Data: []byte{0, 0}}}
	if got := raft.New(me, group, m).Conf(); !slices.Equal(got, []int{1, 2, 5}) {
		t.Errorf("Conf isn't of the last Index: %v", got)
	}
}

// P12.1: ids and groups that aren't there count as the nearest ones.
func TestNewClamps(t *testing.T) {
	for _, x := range [][4]int{{-1, -1, 0, 0}, {math.MinInt, math.MaxInt, 0, 7}, {7, 8, 6, 7}, {3, 5, 3, 5}} {
		m := image(0)
		m.Base.Conf = []int{x[2]}
		r := raft.New(x[0], x[1], m)
		for range 20 {
			r.Tick()
		}
		if r.Lead() != x[2] {
			t.Errorf("id %d isn't %d", x[0], x[2])
		}
		o, _, _ := r.Propose(api.Cmd, nil)
		if len(o.Recs) != 1 || o.Recs[0].Group != x[3] {
			t.Errorf("group %d isn't %d", x[1], x[3])
		}
	}
}

// P12.1
func TestClone(t *testing.T) {
	for _, r := range []*raft.Raft{raft.New(me, group, based(4, 3, 4)), standing(t, image(4, 1)), leading(t, based(4, 3))} {
		c, d := r.Clone(), r.Clone()
		was := r.Image()
		for range 30 {
			a, b := c.Tick(), d.Tick()
			out(t, "a clone's clone", a, b.Recs, b.Msgs)
		}
		c.Propose(api.Cmd, []byte("x"))
		c.Recv(from(0, api.Msg{Kind: api.Append, Term: 99, Entries: []api.Entry{cmd(1, 99)}}))
		if !sameImage(r.Image(), was) {
			t.Error("a clone changes it")
		}
		r.Tick()
		d = r.Clone()
		a, b := r.Tick(), d.Tick()
		out(t, "a clone's tick", a, b.Recs, b.Msgs)
	}
	r := standing(t, image(4))
	c := r.Clone()
	c.Recv(from(0, api.Msg{Kind: api.VoteOk, Term: 5, Ok: true}))
	state(t, "the clone", c, api.Leader, 5, me, 0)
	state(t, "it", r, api.Candidate, 5, -1, 0)
}

// P12.2
func TestTickAsks(t *testing.T) {
	r := raft.New(me, group, image(4, 1, 3))
	o := asking(t, r)
	out(t, "asking", o, nil, others(api.Msg{Kind: api.PreVote, Term: 5, Index: 2, LogTerm: 3}))
	state(t, "asking", r, api.Asking, 4, -1, 0)
	o = asking(t, r)
	out(t, "asking again", o, nil, others(api.Msg{Kind: api.PreVote, Term: 5, Index: 2, LogTerm: 3}))
	if elect.Timeout(me, 4) != 19 || elect.Timeout(me, 5) != 12 {
		t.Error("the test's terms are of like timeouts")
	}
	r = raft.New(me, group, based(5))
	out(t, "of a base alone", asking(t, r), nil, others(api.Msg{Kind: api.PreVote, Term: 6, Index: 10, LogTerm: 3}))
}

// P12.2
func TestTickOfNoMember(t *testing.T) {
	m := image(4)
	m.Base.Conf = []int{0, 2}
	r := raft.New(me, group, m)
	ticks(t, r, 15)
	r.Recv(from(0, api.Msg{Kind: api.Append, Term: 4}))
	ticks(t, r, 30)
	state(t, "no member", r, api.Follower, 4, 0, 0)
	r.Recv(from(0, api.Msg{Kind: api.Append, Term: 4, Entries: []api.Entry{{Index: 1, Term: 4, Kind: api.Conf, Data: []byte{me, 1}}}}))
	ticks(t, r, 18)
	out(t, "a member now", r.Tick(), nil, others(api.Msg{Kind: api.PreVote, Term: 5, Index: 1, LogTerm: 4}))
}

// P12.2: silence goes on while it is no member.
func TestSilenceOfNoMember(t *testing.T) {
	m := image(4)
	m.Base.Conf = []int{0, 2}
	r := raft.New(me, group, m)
	ticks(t, r, 30)
	m.Log = []api.Entry{{Index: 1, Term: 4, Kind: api.Conf, Data: []byte{me, 1}}}
	r.Recv(from(0, api.Msg{Kind: api.Append, Term: 4, Entries: m.Log}))
	ticks(t, r, 18)
	if len(r.Tick().Msgs) != 2 {
		t.Error("an Append doesn't end the silence")
	}
}

// P12.2
func TestOneAlone(t *testing.T) {
	m := based(5, 4)
	m.Base.Conf = []int{me}
	r := raft.New(me, group, m)
	o := asking(t, r)
	out(t, "one alone", o, []api.Rec{hard(6, me), added(noop(12, 6))}, nil)
	state(t, "one alone", r, api.Leader, 6, me, 12)
	if got := r.Ready(); len(got) != 2 || !entry.Same(got[0], m.Log[0]) || !entry.Same(got[1], noop(12, 6)) {
		t.Errorf("Ready: %v", got)
	}
	o, i, ok := r.Propose(api.Cmd, []byte{13})
	out(t, "Propose", o, []api.Rec{added(cmd(13, 6))}, nil)
	if i != 13 || !ok || r.Commit() != 13 {
		t.Errorf("Propose: %d, %v, %d", i, ok, r.Commit())
	}
	if got := r.Ready(); len(got) != 1 || !entry.Same(got[0], cmd(13, 6)) || len(r.Ready()) != 0 {
		t.Errorf("Ready: %v", got)
	}
}

// P12.2, P12.4
func TestStanding(t *testing.T) {
	r := raft.New(me, group, image(4, 1, 3))
	yes := from(0, api.Msg{Kind: api.PreOk, Term: 5, Ok: true})
	out(t, "PreOk of nobody asked", r.Recv(yes), nil, nil)
	asking(t, r)
	for i, m := range []api.Msg{from(0, api.Msg{Kind: api.PreOk, Term: 4, Ok: true}), from(0, api.Msg{Kind: api.PreOk, Term: 6, Ok: true}), from(0, api.Msg{Kind: api.PreOk, Term: 4}), from(5, api.Msg{Kind: api.PreOk, Term: 5, Ok: true})} {
		out(t, "another PreOk", r.Recv(m), nil, nil)
		state(t, string(rune('0'+i)), r, api.Asking, 4, -1, 0)
	}
	out(t, "PreOk", r.Recv(yes), []api.Rec{hard(5, me)}, others(api.Msg{Kind: api.Vote, Term: 5, Index: 2, LogTerm: 3}))
	state(t, "standing", r, api.Candidate, 5, -1, 0)
	out(t, "PreOk again", r.Recv(yes), nil, nil)
	if got := r.Image().Hard; got != (api.Hard{Term: 5, Vote: me}) {
		t.Errorf("Hard: %v", got)
	}
	// The silence went on while it asked: standing ends none of it.
	r = raft.New(me, group, image(4))
	asking(t, r)
	ticks(t, r, 11)
	r.Recv(yes)
	out(t, "12 behind asking", r.Tick(), nil, others(api.Msg{Kind: api.PreVote, Term: 6}))
}

// P12.4
func TestPreOkDown(t *testing.T) {
	r := raft.New(me, group, image(4))
	out(t, "PreOk not Ok of a greater Term", r.Recv(from(0, api.Msg{Kind: api.PreOk, Term: 9})), []api.Rec{hard(9, -1)}, nil)
	state(t, "down", r, api.Follower, 9, -1, 0)
	out(t, "PreOk not Ok of this Term", r.Recv(from(0, api.Msg{Kind: api.PreOk, Term: 9})), nil, nil)
}

// P12.2, P12.3, P12.4
func TestLeading(t *testing.T) {
	r := standing(t, based(4, 4, 4))
	for _, m := range []api.Msg{from(0, api.Msg{Kind: api.VoteOk, Term: 5}), from(0, api.Msg{Kind: api.VoteOk, Term: 4, Ok: true}), from(6, api.Msg{Kind: api.VoteOk, Term: 5, Ok: true})} {
		out(t, "no VoteOk", r.Recv(m), nil, nil)
		state(t, "no VoteOk", r, api.Candidate, 5, -1, 10)
	}
	vote := from(2, api.Msg{Kind: api.VoteOk, Term: 5, Ok: true})
	o := r.Recv(vote)
	out(t, "VoteOk", o, []api.Rec{added(noop(13, 5))}, others(api.Msg{Kind: api.Append, Term: 5, Index: 12, LogTerm: 4, Commit: 10, Entries: []api.Entry{noop(13, 5)}}))
	state(t, "leading", r, api.Leader, 5, me, 10)
	out(t, "VoteOk again", r.Recv(vote), nil, nil)
	word := others(api.Msg{Kind: api.Append, Term: 5, Index: 12, LogTerm: 4, Commit: 10, Entries: []api.Entry{noop(13, 5)}})
	for range 3 {
		ticks(t, r, api.Beat-1)
		out(t, "beat", r.Tick(), nil, word)
	}
}

// P12.3
func TestWords(t *testing.T) {
	r := leading(t, based(4, 4, 4))
	no := func(index int) raft.Out {
		return r.Recv(from(0, api.Msg{Kind: api.AppendOk, Term: 5, Index: index}))
	}
	for i := range 4 {
		r.Propose(api.Cmd, []byte{byte(14 + i)})
	}
	l := []api.Entry{cmd(11, 4), cmd(12, 4), noop(13, 5), cmd(14, 5), cmd(15, 5), cmd(16, 5), cmd(17, 5)}
	l[0].Data[0], l[1].Data[0] = 1, 2
	word := func(index, term int, l []api.Entry) []api.Msg {
		return []api.Msg{to(0, api.Msg{Kind: api.Append, Term: 5, Index: index, LogTerm: term, Commit: 10, Entries: l})}
	}
	install := []api.Msg{to(0, api.Msg{Kind: api.Install, Term: 5, Base: based(0).Base})}
	out(t, "one less", no(99), nil, word(11, 4, l[1:5]))
	out(t, "one less", no(12), nil, word(10, 3, l[:4]))
	out(t, "the base", no(10), nil, install)
	out(t, "as far back", no(0), nil, install)
	out(t, "no farther", no(-5), nil, install)
	out(t, "Ok", r.Recv(appended(0, 5, 12)), nil, word(12, 4, l[2:6]))
	out(t, "not Ok of what it has", no(5), nil, install)
	out(t, "Ok again", r.Recv(appended(0, 5, 12)), nil, nil)
	ticks(t, r, 1)
	o := r.Tick()
	if len(o.Msgs) != 2 || !sameMsg(o.Msgs[0], word(12, 4, l[2:6])[0]) {
		t.Errorf("next isn't match and 1: %+v", o)
	}
}

// P12.5
func TestAppendOkCounts(t *testing.T) {
	r := leading(t, image(4, 4, 4))
	for i := range 3 {
		r.Propose(api.Cmd, []byte{byte(4 + i)})
	}
	out(t, "of an older Term", r.Recv(appended(0, 4, 6)), nil, nil)
	out(t, "of no member", r.Recv(appended(5, 5, 6)), nil, nil)
	o := r.Recv(appended(0, 5, 2))
	state(t, "an older term's entries are with most", r, api.Leader, 5, me, 0)
	if len(o.Msgs) != 1 || o.Msgs[0].Index != 2 || len(o.Msgs[0].Entries) != 4 || o.Msgs[0].Commit != 0 {
		t.Errorf("a word: %+v", o)
	}
	o = r.Recv(appended(0, 5, 4))
	state(t, "this term's are", r, api.Leader, 5, me, 4)
	if len(o.Msgs) != 1 || o.Msgs[0].To != 0 || o.Msgs[0].Commit != 4 || len(o.Msgs[0].Entries) != 2 {
		t.Errorf("a word: %+v", o)
	}
	out(t, "less", r.Recv(appended(0, 5, 3)), nil, nil)
	out(t, "all", r.Recv(appended(2, 5, 6)), nil, nil)
	state(t, "all", r, api.Leader, 5, me, 6)
	if got := r.Ready(); len(got) != 6 {
		t.Errorf("Ready: %v", got)
	}
	r = raft.New(me, group, image(4, 4))
	out(t, "of no Leader", r.Recv(appended(0, 4, 1)), nil, nil)
}

// P12.4
func TestRecvOfOthers(t *testing.T) {
	r := leading(t, image(4, 4))
	for i, m := range []api.Msg{
		{Kind: api.Append, Group: group + 1, From: 0, To: me, Term: 9},
		{Kind: api.Append, Group: group, From: 0, To: 2, Term: 9},
		{Kind: api.Append, Group: group, From: me, To: me, Term: 9},
		{Kind: api.PushMsg, Group: group, From: 0, To: me, Data: []byte("x")},
		{Kind: api.MarkMsg, Group: group, From: 0, To: me, Mark: 9},
		{Kind: 77, Group: group, From: 0, To: me},
		{},
	} {
		out(t, "of others", r.Recv(m), nil, nil)
		state(t, string(rune('0'+i)), r, api.Leader, 5, me, 0)
	}
}

// P12.4
func TestPreVote(t *testing.T) {
	ask := func(term, index, logTerm int) api.Msg {
		return from(0, api.Msg{Kind: api.PreVote, Term: term, Index: index, LogTerm: logTerm})
	}
	for i, x := range []struct {
		m  api.Msg
		ok bool
	}{{ask(5, 2, 3), true}, {ask(9, 1, 4), true}, {ask(4, 2, 3), false}, {ask(5, 1, 3), false}, {ask(5, 9, 2), false}} {
		r := raft.New(me, group, image(4, 1, 3))
		want := api.Msg{Kind: api.PreOk, Term: 4}
		if x.ok {
			want = api.Msg{Kind: api.PreOk, Term: x.m.Term, Ok: true}
		}
		out(t, "PreVote "+string(rune('0'+i)), r.Recv(x.m), nil, []api.Msg{to(0, want)})
		state(t, "PreVote", r, api.Follower, 4, -1, 0)
	}
	r := raft.New(me, group, image(4))
	r.Recv(from(2, api.Msg{Kind: api.Append, Term: 4}))
	for range api.Wait {
		out(t, "a leader is heard of", r.Recv(ask(5, 0, 0)), nil, []api.Msg{to(0, api.Msg{Kind: api.PreOk, Term: 4})})
		r.Tick()
	}
	out(t, "nothing was heard for long", r.Recv(ask(5, 0, 0)), nil, []api.Msg{to(0, api.Msg{Kind: api.PreOk, Term: 5, Ok: true})})
	r = leading(t, image(4))
	out(t, "to a Leader", r.Recv(ask(6, 9, 9)), nil, []api.Msg{to(0, api.Msg{Kind: api.PreOk, Term: 5})})
	r = standing(t, image(4))
	out(t, "to a Candidate", r.Recv(ask(6, 9, 9)), nil, []api.Msg{to(0, api.Msg{Kind: api.PreOk, Term: 6, Ok: true})})
}

// P12.4
func TestVote(t *testing.T) {
	ask := func(n, term, index, logTerm int) api.Msg {
		return from(n, api.Msg{Kind: api.Vote, Term: term, Index: index, LogTerm: logTerm})
	}
	reply := func(n, term int, ok bool) []api.Msg {
		return []api.Msg{to(n, api.Msg{Kind: api.VoteOk, Term: term, Ok: ok})}
	}
	r := raft.New(me, group, image(4, 1, 3))
	out(t, "a lesser Term", r.Recv(ask(0, 3, 9, 9)), nil, reply(0, 4, false))
	out(t, "an older log", r.Recv(ask(0, 4, 1, 3)), nil, reply(0, 4, false))
	ticks(t, r, 5)
	out(t, "free", r.Recv(ask(0, 4, 2, 3)), []api.Rec{hard(4, 0)}, reply(0, 4, true))
	ticks(t, r, 18)
	out(t, "again", r.Recv(ask(0, 4, 2, 3)), nil, reply(0, 4, true))
	ticks(t, r, 18)
	out(t, "not free", r.Recv(ask(2, 4, 9, 9)), nil, reply(2, 4, false))
	state(t, "not free", r, api.Follower, 4, -1, 0)
	out(t, "a no ends no silence", r.Tick(), nil, others(api.Msg{Kind: api.PreVote, Term: 5, Index: 2, LogTerm: 3}))
	out(t, "a greater Term", r.Recv(ask(2, 6, 2, 3)), []api.Rec{hard(6, -1), hard(6, 2)}, reply(2, 6, true))
	out(t, "a greater Term, an older log", r.Recv(ask(0, 7, 0, 0)), []api.Rec{hard(7, -1)}, reply(0, 7, false))
	state(t, "down", r, api.Follower, 7, -1, 0)
	r = leading(t, image(4))
	out(t, "to a Leader", r.Recv(ask(0, 5, 9, 9)), nil, reply(0, 5, false))
	out(t, "to a Leader of a lesser Term", r.Recv(ask(0, 6, 9, 9)), []api.Rec{hard(6, -1), hard(6, 0)}, reply(0, 6, true))
}

// P12.4
func TestLesserTerms(t *testing.T) {
	r := raft.New(me, group, image(4))
	for kind, want := range map[int][]api.Msg{
		api.Append: {to(0, api.Msg{Kind: api.AppendOk, Term: 4})}, api.Install: {to(0, api.Msg{Kind: api.AppendOk, Term: 4})},
		api.Vote: {to(0, api.Msg{Kind: api.VoteOk, Term: 4})}, api.VoteOk: nil, api.AppendOk: nil,
	} {
		out(t, "a lesser Term", r.Recv(from(0, api.Msg{Kind: kind, Term: 3, Ok: true, Index: 1, Base: api.Base{Index: 5, Conf: []int{0}}})), nil, want)
		state(t, "a lesser Term", r, api.Follower, 4, -1, 0)
	}
	for _, kind := range []int{api.VoteOk, api.AppendOk} {
		r := leading(t, image(4))
		out(t, "a greater Term", r.Recv(from(0, api.Msg{Kind: kind, Term: 9})), []api.Rec{hard(9, -1)}, nil)
		state(t, "a greater Term", r, api.Follower, 9, -1, 0)
	}
}

// P12.5
func TestAppend(t *testing.T) {
	word := func(term, index, logTerm, commit int, l ...api.Entry) api.Msg {
		return from(2, api.Msg{Kind: api.Append, Term: term, Index: index, LogTerm: logTerm, Commit: commit, Entries: l})
	}
	reply := func(term int, ok bool, index int) []api.Msg {
		return []api.Msg{to(2, api.Msg{Kind: api.AppendOk, Term: term, Ok: ok, Index: index})}
	}
	r := raft.New(me, group, image(4, 1, 3))
	ticks(t, r, 15)
	out(t, "another Term there", r.Recv(word(4, 2, 4, 9)), nil, reply(4, false, 1))
	out(t, "not there", r.Recv(word(4, 9, 4, 9)), nil, reply(4, false, 2))
	state(t, "a leader is known", r, api.Follower, 4, 2, 0)
	ticks(t, r, 18)
	out(t, "new ones", r.Recv(word(4, 2, 3, 1, cmd(3, 4), cmd(4, 4))), []api.Rec{added(cmd(3, 4)), added(cmd(4, 4))}, reply(4, true, 4))
	state(t, "committed", r, api.Follower, 4, 2, 1)
	out(t, "there already", r.Recv(word(4, 2, 3, 9, cmd(3, 4))), nil, reply(4, true, 3))
	state(t, "committed as far as the word goes", r, api.Follower, 4, 2, 3)
	out(t, "a lesser Commit", r.Recv(word(4, 4, 4, 1)), nil, reply(4, true, 4))
	state(t, "a lesser Commit", r, api.Follower, 4, 2, 3)
	out(t, "a greater Term", r.Recv(word(6, 3, 4, 0, cmd(4, 6))), []api.Rec{hard(6, -1), added(cmd(4, 6))}, reply(6, true, 4))
	state(t, "a greater Term", r, api.Follower, 6, 2, 3)
	if got := r.Ready(); len(got) != 3 || got[2].Index != 3 || len(r.Ready()) != 0 {
		t.Errorf("Ready: %v", got)
	}
	r = standing(t, image(4))
	out(t, "to a Candidate", r.Recv(word(5, 0, 0, 0)), nil, reply(5, true, 0))
	state(t, "to a Candidate", r, api.Follower, 5, 2, 0)
	r = raft.New(me, group, based(4))
	out(t, "ahead of the base", r.Recv(word(4, 8, 1, 11, cmd(9, 1), cmd(10, 3), cmd(11, 4))), []api.Rec{added(cmd(11, 4))}, reply(4, true, 11))
	state(t, "ahead of the base", r, api.Follower, 4, 2, 11)
}

// P12.5
func TestInstall(t *testing.T) {
	install := func(index, term int) api.Msg {
		return from(2, api.Msg{Kind: api.Install, Term: 4, Base: api.Base{Index: index, Term: term, Conf: []int{1, 2}, Data: []byte("other")}})
	}
	reply := func(index int) []api.Msg {
		return []api.Msg{to(2, api.Msg{Kind: api.AppendOk, Term: 4, Ok: true, Index: index})}
	}
	r := raft.New(me, group, based(4, 3, 4, 4))
	ticks(t, r, 18)
	out(t, "of what is committed", r.Recv(install(10, 9)), nil, reply(10))
	state(t, "of what is committed", r, api.Follower, 4, 2, 10)
	ticks(t, r, 18)
	out(t, "of what is there", r.Recv(install(12, 4)), nil, reply(12))
	state(t, "of what is there", r, api.Follower, 4, 2, 12)
	if got := r.Ready(); len(got) != 2 || got[0].Index != 11 {
		t.Errorf("Ready: %v", got)
	}
	for i, m := range []api.Msg{install(13, 3), install(20, 4)} {
		c := r.Clone()
		base := api.Base{Index: m.Base.Index, Term: m.Base.Term, Conf: []int{1, 2}, Data: []byte("other")}
		o := c.Recv(m)
		m.Base.Data[0] = 'x'
		if !o.Restore {
			t.Errorf("install %d: no Restore", i)
		}
		o.Restore = false
		out(t, "of another one", o, []api.Rec{{Group: group, Kind: api.RecBase, Base: base}}, reply(base.Index))
		state(t, "of another one", c, api.Follower, 4, 2, base.Index)
		if len(c.Ready()) != 0 || !sameImage(c.Image(), api.Image{Hard: api.Hard{Term: 4, Vote: -1}, Base: base}) || !slices.Equal(c.Conf(), []int{1, 2}) {
			t.Errorf("install %d: %v", i, c.Image())
		}
	}
}

// P12.6
func TestPropose(t *testing.T) {
	for _, r := range []*raft.Raft{raft.New(me, group, image(4)), standing(t, image(4))} {
		o, i, ok := r.Propose(api.Cmd, []byte("x"))
		out(t, "of no Leader", o, nil, nil)
		if i != 0 || ok || r.Image().Log != nil {
			t.Errorf("of no Leader: %d, %v", i, ok)
		}
	}
	r := leading(t, image(4, 4))
	data := []byte{3}
	o, i, ok := r.Propose(api.Cmd, data)
	data[0] = 9
	out(t, "Propose", o, []api.Rec{added(cmd(3, 5))}, others(api.Msg{Kind: api.Append, Term: 5, Index: 1, LogTerm: 4, Entries: []api.Entry{noop(2, 5), cmd(3, 5)}}))
	if i != 3 || !ok {
		t.Errorf("Propose: %d, %v", i, ok)
	}
}

// P12.6
func TestProposeConf(t *testing.T) {
	r := leading(t, image(4, 4))
	busy := func(what string, data ...byte) {
		t.Helper()
		was := r.Image()
		o, i, ok := r.Propose(api.Conf, data)
		out(t, what, o, nil, nil)
		if i != 0 || ok || !sameImage(r.Image(), was) {
			t.Errorf("%s: %d, %v", what, i, ok)
		}
	}
	busy("nothing of this term is committed", 3, 1)
	r.Recv(appended(0, 5, 2))
	busy("there already", 0, 1)
	busy("not there", 3, 0)
	busy("itself", me, 0)
	busy("no node", 7, 1)
	busy("neither comes nor goes", 3, 2)
	busy("too short", 3)
	busy("too long", 3, 1, 0)
	busy("nothing")
	e := api.Entry{Index: 3, Term: 5, Kind: api.Conf, Data: []byte{3, 1}}
	o, i, ok := r.Propose(api.Conf, []byte{3, 1})
	if i != 3 || !ok || len(o.Msgs) != 3 || o.Msgs[2].To != 3 || !slices.Equal(r.Conf(), []int{0, 1, 2, 3}) {
		t.Errorf("Propose: %d, %v, %+v", i, ok, o)
	}
	out(t, "comes", raft.Out{Recs: o.Recs}, []api.Rec{added(e)}, nil)
	busy("another change is under way", 0, 0)
	r.Recv(appended(0, 5, 3))
	state(t, "two of four are not most", r, api.Leader, 5, me, 2)
	r.Recv(appended(2, 5, 3))
	state(t, "three are", r, api.Leader, 5, me, 3)
	if _, i, ok := r.Propose(api.Conf, []byte{0, 0}); i != 4 || !ok || !slices.Equal(r.Conf(), []int{1, 2, 3}) {
		t.Errorf("goes: %d, %v, %v", i, ok, r.Conf())
	}
	out(t, "who went isn't told", raft.Out{Msgs: r.Recv(appended(0, 5, 4)).Msgs}, nil, nil)
	m := image(4)
	m.Base.Conf = []int{me}
	r = raft.New(me, group, m)
	asking(t, r)
	busy("the last one", me, 0)
	if _, _, ok := r.Propose(api.Conf, []byte{0, 1}); !ok {
		t.Error("one alone takes nobody in")
	}
}

// P12.1
func TestCompact(t *testing.T) {
	r := raft.New(me, group, based(4, 3, 4, 4))
	out(t, "nothing is applied", r.Compact([]byte("new")), nil, nil)
	r.Recv(from(0, api.Msg{Kind: api.Append, Term: 4, Index: 12, LogTerm: 4, Commit: 12}))
	out(t, "committed isn't applied", r.Compact([]byte("new")), nil, nil)
	r.Ready()
	data := []byte("new")
	o := r.Compact(data)
	data[0] = 'x'
	b := api.Base{Index: 12, Term: 4, Conf: []int{0, 1, 2}, Data: []byte("new")}
	out(t, "Compact", o, []api.Rec{{Group: group, Kind: api.RecBase, Base: b}}, nil)
	last := cmd(13, 4)
	last.Data[0] = 3
	if !sameImage(r.Image(), api.Image{Hard: api.Hard{Term: 4, Vote: -1}, Base: b, Log: []api.Entry{last}}) {
		t.Errorf("Compact: %v", r.Image())
	}
	out(t, "again", r.Compact([]byte("new")), nil, nil)
}

// Whatever it is handed, it ends, and doesn't panic.
func TestAllArguments(t *testing.T) {
	odd := []int{math.MinInt, -1, 0, 1, 5, 10, math.MaxInt}
	for _, m := range []api.Image{{}, image(4, 4), based(4, 4), {Base: api.Base{Index: math.MinInt, Conf: []int{1, 99, -4}}}, {Base: api.Base{Index: math.MaxInt, Term: -9, Conf: []int{1}}}} {
		for kind := -1; kind < 12; kind++ {
			for i, a := range odd {
				r := raft.New(me, group, m)
				for range 40 {
					r.Tick()
				}
				b := odd[(i+kind+7)%len(odd)]
				for n := -1; n < 9; n++ {
					msg := from(n, api.Msg{Kind: kind, Term: a, Index: b, LogTerm: a, Commit: b, Ok: n%2 == 0, Entries: []api.Entry{{Index: b, Term: a, Kind: api.Conf}}, Base: api.Base{Index: b, Term: a}})
					r.Recv(msg)
				}
				r.Tick()
				r.Propose(kind, nil)
				r.Ready()
				r.Compact(nil)
				r.Clone().Image()
			}
		}
	}
}
