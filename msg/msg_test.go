package msg_test

import (
	"bytes"
	"math"
	"testing"

	"memento/api"
	"memento/crc"
	"memento/entry"
	"memento/msg"
	"memento/pack"
)

const top = api.MaxTime

func cmd(index, term int, data string) api.Entry {
	return api.Entry{Index: index, Term: term, Kind: api.Cmd, Data: []byte(data)}
}

func rights() []api.Msg {
	base := api.Base{Index: 4, Term: 2, Conf: []int{0, 2}, Data: []byte("state")}
	return []api.Msg{
		{Kind: api.PreVote, Group: 7, From: 6, To: 5, Term: top, Index: top, LogTerm: top},
		{Kind: api.PreVote},
		{Kind: api.PreOk, Group: 1, From: 1, Term: 3, Ok: true},
		{Kind: api.Vote, To: 6, Term: 1, Index: 300, LogTerm: 4},
		{Kind: api.VoteOk, Term: top},
		{Kind: api.Append, Term: 3, Index: 4, LogTerm: 2, Commit: top},
		{Kind: api.Append, Term: 3, Index: 4, LogTerm: 2, Commit: 1, Entries: []api.Entry{cmd(5, 2, "a"), {Index: 6, Term: 3}, cmd(7, 3, ""), cmd(8, 3, "bc")}},
		{Kind: api.AppendOk, Term: 3, Ok: true, Index: top},
		{Kind: api.Install, Term: 3, Base: base},
		{Kind: api.PushMsg, Group: 2, From: 1, To: 1, Data: []byte("push")},
		{Kind: api.PushMsg},
		{Kind: api.PushMsg, Data: make([]byte, api.MaxBody)},
		{Kind: api.MarkMsg, Vol: 7, Chunk: 255, Mark: top, Floor: top},
	}
}

func wrongs() []api.Msg {
	var l []api.Msg
	for _, m := range rights() {
		each := []func(m *api.Msg){
			func(m *api.Msg) { m.Kind = 0 },
			func(m *api.Msg) { m.Kind = 10 },
			func(m *api.Msg) { m.Kind = math.MinInt },
			func(m *api.Msg) { m.Group = -1 },
			func(m *api.Msg) { m.Group = 8 },
			func(m *api.Msg) { m.From = -1 },
			func(m *api.Msg) { m.From = 7 },
			func(m *api.Msg) { m.To = -1 },
			func(m *api.Msg) { m.To = 7 },
			func(m *api.Msg) { m.Term = -1 },
			func(m *api.Msg) { m.Term = top + 1 },
			func(m *api.Msg) { m.Index = -1 },
			func(m *api.Msg) { m.Index = top + 1 },
			func(m *api.Msg) { m.LogTerm = -1 },
			func(m *api.Msg) { m.LogTerm = top + 1 },
			func(m *api.Msg) { m.Commit = -1 },
			func(m *api.Msg) { m.Commit = top + 1 },
			func(m *api.Msg) { m.Vol = -1 },
			func(m *api.Msg) { m.Vol = 8 },
			func(m *api.Msg) { m.Chunk = -1 },
			func(m *api.Msg) { m.Chunk = 256 },
			func(m *api.Msg) { m.Mark = -1 },
			func(m *api.Msg) { m.Mark = top + 1 },
			func(m *api.Msg) { m.Floor = -1 },
			func(m *api.Msg) { m.Floor = top + 1 },
			func(m *api.Msg) { m.Data = make([]byte, api.MaxBody+1) },
			func(m *api.Msg) { m.Entries = []api.Entry{cmd(0, 1, "")} },
			func(m *api.Msg) { m.Entries = []api.Entry{cmd(1, 1, ""), cmd(3, 1, "")} },
			func(m *api.Msg) { m.Entries = []api.Entry{cmd(2, 1, ""), cmd(1, 1, "")} },
			func(m *api.Msg) {
				m.Entries = []api.Entry{cmd(1, 1, ""), cmd(2, 1, ""), cmd(3, 1, ""), cmd(4, 1, ""), cmd(5, 1, "")}
			},
			func(m *api.Msg) { m.Base = api.Base{Index: 1} },
		}
		for _, change := range each {
			o := m
			change(&o)
			l = append(l, o)
		}
	}
	return l
}

// others: messages that have what another kind names.
func others() []api.Msg {
	fields := []struct {
		kinds []int
		set   func(m *api.Msg)
	}{
		{[]int{api.PreVote, api.PreOk, api.Vote, api.VoteOk, api.Append, api.AppendOk, api.Install}, func(m *api.Msg) { m.Term = 1 }},
		{[]int{api.PreVote, api.Vote, api.Append, api.AppendOk}, func(m *api.Msg) { m.Index = 1 }},
		{[]int{api.PreVote, api.Vote, api.Append}, func(m *api.Msg) { m.LogTerm = 1 }},
		{[]int{api.Append}, func(m *api.Msg) { m.Commit = 1 }},
		{[]int{api.Append}, func(m *api.Msg) { m.Entries = []api.Entry{cmd(1, 1, "")} }},
		{[]int{api.PreOk, api.VoteOk, api.AppendOk}, func(m *api.Msg) { m.Ok = true }},
		{[]int{api.Install}, func(m *api.Msg) { m.Base = api.Base{Conf: []int{1}} }},
		{[]int{api.PushMsg}, func(m *api.Msg) { m.Data = []byte("d") }},
		{[]int{api.MarkMsg}, func(m *api.Msg) { m.Vol = 1 }},
		{[]int{api.MarkMsg}, func(m *api.Msg) { m.Chunk = 1 }},
		{[]int{api.MarkMsg}, func(m *api.Msg) { m.Mark = 1 }},
		{[]int{api.MarkMsg}, func(m *api.Msg) { m.Floor = 1 }},
	}
	var l []api.Msg
	for _, m := range rights() {
		for _, f := range fields {
			o, named := m, false
			f.set(&o)
			for _, k := range f.kinds {
				named = named || k == m.Kind
			}
			if !named {
				l = append(l, o)
			}
		}
	}
	return append(l, api.Msg{Kind: api.Install, Term: 1})
}

// P10.1
func TestRight(t *testing.T) {
	for i, m := range rights() {
		if !msg.Right(m) {
			t.Errorf("%d isn't right", i)
		}
	}
	for i, m := range append(wrongs(), others()...) {
		if b, e := msg.Put(m); msg.Right(m) || e != api.ErrForm || len(b) != 0 {
			t.Errorf("wrong %d: %+v: %d", i, m, e)
		}
	}
}

// P10.1
func TestPut(t *testing.T) {
	for i, m := range rights() {
		n := func(l ...int) []byte {
			var b []byte
			for _, x := range l {
				b = append(b, pack.Put(uint64(x))...)
			}
			return b
		}
		ok, base := 0, []byte{0}
		if m.Ok {
			ok = 1
		}
		want := n(m.Kind, m.Group, m.From, m.To, m.Term, m.Index, m.LogTerm, m.Commit, ok, len(m.Entries))
		for _, e := range m.Entries {
			want = append(want, entry.Put(e)...)
		}
		if m.Kind == api.Install {
			base = append([]byte{1}, entry.PutBase(m.Base)...)
		}
		want = crc.Seal(pack.Join(want, base, pack.Lump(m.Data), n(m.Vol, m.Chunk, int(m.Mark), int(m.Floor))))
		if got, e := msg.Put(m); e != api.OK || !bytes.Equal(got, want) {
			t.Errorf("Put %d: %x, %d", i, got, e)
		}
	}
	got, _ := msg.Put(api.Msg{Kind: api.Vote, Group: 1, From: 2, To: 3, Term: 4, Index: 300, LogTerm: 5})
	if string(got[:len(got)-4]) != "\x03\x01\x02\x03\x04\xac\x02\x05\x00\x00\x00\x00\x00\x00\x00\x00\x00" {
		t.Errorf("Put of a Vote: %x", got)
	}
}

// P10.1
func TestRead(t *testing.T) {
	for i, m := range rights() {
		b, _ := msg.Put(m)
		if got, e := msg.Read(b); e != api.OK || !msg.Same(got, m) {
			t.Errorf("Read %d: %+v, %d", i, got, e)
		}
	}
	for i, b := range [][]byte{nil, {1}, {1, 2, 3, 4}, []byte("something else")} {
		if got, e := msg.Read(b); e != api.ErrSum || !msg.Same(got, api.Msg{}) {
			t.Errorf("Read of other %d: %d", i, e)
		}
	}
	vote := "\x03\x01\x02\x03\x04\x06\x05\x00\x00\x00\x00\x00\x00\x00\x00\x00"
	if _, e := msg.Read(crc.Seal([]byte(vote))); e != api.OK {
		t.Errorf("Read of a Vote: %d", e)
	}
	for i, s := range []string{
		"", vote[:15], vote + "\x00", vote[:15] + "\x80\x00", // not all, more, not the shortest form
		"\x00" + vote[1:], "\x0a" + vote[1:], "\x03\x08" + vote[2:], "\x03\x01\x07" + vote[3:], "\x03\x01\x02\x07" + vote[4:],
		vote[:7] + "\x01" + vote[8:],                                       // a Commit
		vote[:8] + "\x02" + vote[9:],                                       // neither Ok nor not
		vote[:8] + "\x01" + vote[9:],                                       // Ok
		vote[:9] + "\x01\x01\x01\x00\x00" + vote[10:],                      // an entry
		vote[:10] + "\x02" + vote[11:],                                     // neither a base nor none
		vote[:10] + "\x01\x01\x01\x01\x00\x00" + vote[11:],                 // a base
		"\x07\x00\x00\x00\x01\x00\x00\x00\x00\x00\x00\x00\x00\x00\x00\x00", // an Install without a base
		"\x05\x00\x00\x00\x01\x00\x00\x00\x00\x05\x01\x01\x00\x00\x02\x01\x00\x00\x03\x01\x00\x00\x04\x01\x00\x00\x05\x01\x00\x00\x00\x00\x00\x00\x00\x00", // five entries
	} {
		if got, e := msg.Read(crc.Seal([]byte(s))); e != api.ErrBytes || !msg.Same(got, api.Msg{}) {
			t.Errorf("Read of no message %d: %d", i, e)
		}
	}
}

// P10.1
func TestSame(t *testing.T) {
	l := append(append(rights(), wrongs()...), others()...)
	for i := range l {
		for k := range l {
			a, _ := msg.Put(l[i])
			b, _ := msg.Put(l[k])
			if len(a) > 0 && len(b) > 0 && msg.Same(l[i], l[k]) != bytes.Equal(a, b) {
				t.Errorf("Same of %d, %d", i, k)
			}
		}
	}
	for i, m := range append(wrongs(), others()...) {
		if !msg.Same(m, m) {
			t.Errorf("%d isn't like itself", i)
		}
	}
	zero := api.Msg{}
	for i, m := range others() {
		if msg.Same(m, zero) || msg.Same(zero, m) {
			t.Errorf("%d is like zero", i)
		}
	}
	if !msg.Same(api.Msg{Entries: []api.Entry{}, Data: []byte{}, Base: api.Base{Conf: []int{}}}, zero) {
		t.Error("an empty list isn't like none")
	}
}

// P10.2
func TestTurnedIsNotTaken(t *testing.T) {
	for _, m := range rights() {
		b, _ := msg.Put(m)
		if len(b) > 100 {
			continue
		}
		for from := range len(b) * 8 {
			for _, turn := range []uint32{1, 3, 0x80000001, 0xffffffff, 0x82f63b78} {
				o := bytes.Clone(b)
				for i := range 32 {
					if at := from + i; turn>>i&1 == 1 && at < len(o)*8 {
						o[at/8] ^= 1 << (at % 8)
					}
				}
				if _, e := msg.Read(o); e == api.OK && !bytes.Equal(o, b) {
					t.Fatalf("%x, turned at bit %d, is taken", turn, from)
				}
			}
		}
	}
}
