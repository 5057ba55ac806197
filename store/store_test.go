package store_test

import (
	"bytes"
	"math"
	"slices"
	"testing"

	"memento/api"
	"memento/entry"
	"memento/pack"
	"memento/pdisk"
	"memento/slot"
	"memento/store"
	"memento/wal"
)

func hard(g, term, vote int) api.Rec {
	return api.Rec{Group: g, Kind: api.RecHard, Hard: api.Hard{Term: term, Vote: vote}}
}

func cmd(index, term int, data string) api.Entry {
	return api.Entry{Index: index, Term: term, Kind: api.Cmd, Data: []byte(data)}
}

func add(g, index, term int, data string) api.Rec {
	return api.Rec{Group: g, Kind: api.RecEntry, Entry: cmd(index, term, data)}
}

func based(index, term int, data string) api.Base {
	return api.Base{Index: index, Term: term, Conf: []int{0, 2}, Data: []byte(data)}
}

func base(g, index, term int, data string) api.Rec {
	return api.Rec{Group: g, Kind: api.RecBase, Base: based(index, term, data)}
}

func same(a, b api.Image) bool {
	return a.Hard == b.Hard && entry.SameBase(a.Base, b.Base) && slices.EqualFunc(a.Log, b.Log, entry.Same)
}

func sameRec(a, b api.Rec) bool {
	return a.Group == b.Group && a.Kind == b.Kind && a.Hard == b.Hard && entry.Same(a.Entry, b.Entry) && entry.SameBase(a.Base, b.Base)
}

func fresh(first ...int) api.Image {
	return api.Image{Hard: api.Hard{Vote: -1}, Base: api.Base{Conf: first}}
}

func open(t *testing.T, d *pdisk.Disk, groups int, first ...int) *store.Store {
	t.Helper()
	s, e := store.Open(d, groups, first...)
	if e != api.OK {
		t.Fatalf("Open: %d", e)
	}
	return s
}

// P11.1
func TestPutAndRead(t *testing.T) {
	for i, x := range []struct {
		r    api.Rec
		want []byte
	}{
		{hard(7, api.MaxTime, 6), pack.Put(7, 1, api.MaxTime, 7)},
		{hard(0, 0, -1), []byte{0, 1, 0, 0}},
		{add(2, 300, 4, "ab"), []byte("\x02\x02\xac\x02\x04\x01\x02ab")},
		{base(3, 300, 4, "ab"), []byte("\x03\x03\xac\x02\x04\x02\x00\x02\x02ab")},
		{add(2, 300, 4, string(make([]byte, 32767))), append([]byte("\x02\x02\xac\x02\x04\x01"), pack.Lump(make([]byte, 32767))...)},
	} {
		if got := store.Put(x.r); !bytes.Equal(got, x.want) {
			t.Errorf("Put %d: %x", i, got)
		}
		if got, ok := store.Read(x.want); !ok || !sameRec(got, x.r) {
			t.Errorf("Read %d: %v, %v", i, got, ok)
		}
		mixed := x.r
		if mixed.Kind != api.RecHard {
			mixed.Hard = api.Hard{Term: -5, Vote: 99}
		}
		if mixed.Kind != api.RecEntry {
			mixed.Entry = api.Entry{Index: -1}
		}
		if mixed.Kind != api.RecBase {
			mixed.Base = api.Base{Index: -1}
		}
		if got := store.Put(mixed); !bytes.Equal(got, x.want) {
			t.Errorf("Put %d with fields of other kinds: %x", i, got)
		}
	}
}

// wrongs: records that may not be.
func wrongs() []api.Rec {
	return []api.Rec{
		{}, {Kind: 4}, {Kind: -1}, hard(-1, 1, 1), hard(8, 1, 1), hard(0, -1, 1), hard(0, api.MaxTime+1, 1), hard(0, 1, -2), hard(0, 1, 7),
		add(0, 0, 1, ""), add(0, 1, -1, ""), add(8, 1, 1, ""), add(0, 1, 1, string(make([]byte, 32768))),
		base(0, -1, 1, ""), base(-1, 1, 1, ""), base(0, 1, 1, string(make([]byte, 32768))), {Kind: api.RecBase},
	}
}

// P11.1
func TestPutAndReadOfWrongs(t *testing.T) {
	for i, r := range wrongs() {
		if got := store.Put(r); len(got) != 0 {
			t.Errorf("Put of wrong %d: %x", i, got)
		}
	}
	for i, s := range []string{
		"", "\x00", "\x00\x01", "\x00\x01\x05", "\x00\x01\x05\x08", "\x08\x01\x05\x01", "\x00\x01\x05\x01\x00", "\x00\x01\x85\x00\x01",
		"\x00\x00", "\x00\x04\x01", "\x00\x02\x00\x01\x01\x00", "\x00\x02\x01\x01\x01\x00\x00", "\x00\x02\x01\x01\x01\x01", "\x00\x03\x01\x01\x00\x00", "\x00\x03\x01\x01\x01\x07\x00",
	} {
		if got, ok := store.Read([]byte(s)); ok || !sameRec(got, api.Rec{}) {
			t.Errorf("Read of wrong %d: %v", i, got)
		}
	}
}

// P11.1
func TestTurn(t *testing.T) {
	b := based(10, 3, "b")
	l := []api.Entry{cmd(11, 3, "a"), cmd(12, 4, "b"), cmd(13, 4, "c")}
	m := api.Image{Hard: api.Hard{Term: 4, Vote: 1}, Base: b, Log: l}
	with := func(b api.Base, l ...api.Entry) api.Image { return api.Image{Hard: m.Hard, Base: b, Log: l} }
	for i, x := range []struct {
		r    api.Rec
		want api.Image
	}{
		{hard(0, 9, 2), api.Image{Hard: api.Hard{Term: 9, Vote: 2}, Base: b, Log: l}},
		{add(0, 14, 5, "d"), with(b, l[0], l[1], l[2], cmd(14, 5, "d"))},
		{add(0, 13, 5, "d"), with(b, l[0], l[1], cmd(13, 5, "d"))},
		{add(0, 12, 5, "d"), with(b, l[0], cmd(12, 5, "d"))},
		{add(0, 11, 5, "d"), with(b, cmd(11, 5, "d"))},
		{add(0, 15, 5, "d"), m},
		{add(0, 10, 5, "d"), m},
		{add(0, 1, 5, "d"), m},
		{base(0, 10, 3, "n"), with(based(10, 3, "n"), l...)},
		{base(0, 11, 3, "n"), with(based(11, 3, "n"), l[1:]...)},
		{base(0, 13, 4, "n"), with(based(13, 4, "n"))},
		{base(0, 12, 3, "n"), with(based(12, 3, "n"))},
		{base(0, 10, 4, "n"), with(based(10, 4, "n"))},
		{base(0, 14, 4, "n"), with(based(14, 4, "n"))},
		{base(0, 9, 3, "n"), with(based(9, 3, "n"))},
		{api.Rec{}, m},
		{api.Rec{Kind: 9, Hard: api.Hard{Term: 1}}, m},
	} {
		got := store.Turn(m, x.r)
		if !same(got, x.want) {
			t.Errorf("Turn %d: %v", i, got)
		}
		for k := range got.Log {
			if len(got.Log[k].Data) > 0 {
				got.Log[k].Data[0] = 'x'
			}
		}
		got.Base.Conf[0], got.Base.Data[0] = 6, 'x'
		if m.Base.Conf[0] != 0 || string(m.Base.Data) != "b" || !slices.EqualFunc(m.Log, []api.Entry{cmd(11, 3, "a"), cmd(12, 4, "b"), cmd(13, 4, "c")}, entry.Same) {
			t.Fatalf("Turn %d shares", i)
		}
	}
	spare := append(make([]api.Entry, 0, 9), l...)
	store.Turn(api.Image{Base: b, Log: spare}, add(0, 14, 5, "d"))
	if spare[:4][3].Index != 0 {
		t.Error("Turn writes to the spare room")
	}
}

// P11.2
func TestOpenErrors(t *testing.T) {
	for i, x := range []struct {
		d     *pdisk.Disk
		first []int
		e     api.Errno
	}{
		{nil, []int{0}, api.ErrForm}, {pdisk.New(99), nil, api.ErrForm}, {pdisk.New(99), []int{7, -1}, api.ErrForm}, {nil, nil, api.ErrForm},
		{pdisk.New(0), []int{0}, api.ErrSpace}, {pdisk.New(1), []int{0}, api.ErrSpace}, {pdisk.New(2), []int{0}, api.ErrSpace}, {pdisk.New(5), []int{0}, api.ErrSpace},
		{pdisk.New(6), []int{0}, api.OK}, {pdisk.New(7), []int{0}, api.OK},
	} {
		if s, e := store.Open(x.d, 1, x.first...); e != x.e || (s == nil) != (e != api.OK) {
			t.Errorf("Open %d: %d", i, e)
		}
	}
	for n := range 6 { // two slots of two each, two records, a flush: seven in all
		d := pdisk.New(9)
		d.Power(n)
		if s, e := store.Open(d, 1, 0); e != api.ErrDead || s != nil {
			t.Errorf("Open with power for %d: %d", n, e)
		}
	}
}

// P11.2
func TestOpenOfNew(t *testing.T) {
	for _, x := range [][2]int{{math.MinInt, 1}, {0, 1}, {1, 1}, {3, 3}, {8, 8}, {9, 8}, {math.MaxInt, 8}} {
		s := open(t, pdisk.New(200), x[0], 5, 9, 1, 5)
		for g := range 10 {
			want := fresh(1, 5)
			if g >= x[1] {
				want = api.Image{}
			}
			if !same(s.Image(g), want) {
				t.Errorf("of %d groups, image %d: %v", x[0], g, s.Image(g))
			}
		}
		if s.Gen() != 1 || s.Used() != 2*x[1] {
			t.Errorf("of %d groups: gen %d, used %d", x[0], s.Gen(), s.Used())
		}
		if !same(s.Image(-1), api.Image{}) {
			t.Error("image -1")
		}
	}
}

// P11.2, P11.3: the bytes on the disk.
func TestWrittenAnew(t *testing.T) {
	d := pdisk.New(43) // areas of 20: 2 to 21, 22 to 41
	s := open(t, d, 2, 0, 2)
	long := string(make([]byte, 60))
	if e := s.Save(add(1, 1, 1, long), hard(0, 3, 2), base(0, 5, 1, "zero")); e != api.OK || s.Used() != 4+4 || s.Gen() != 1 {
		t.Errorf("Save: %d, used %d", e, s.Used())
	}
	if got, ok := slot.Choose(d); !ok || got != (slot.Slot{Count: 2, Gen: 1, Area: 0}) {
		t.Errorf("slot: %v", got)
	}
	bodies, end := wal.Scan(d, 2, 22, 1)
	if len(bodies) != 7 || end != 10 {
		t.Errorf("%d records, to %d", len(bodies), end)
	}
	d.Power(2 + 6 + 1 + 2)
	s = open(t, d, 2, 1)
	if !d.Dead() || d.Read(22)[0] != 3 {
		t.Error("it isn't written anew in so many steps")
	}
	d.Crash(0, 0)
	want := [][]byte{
		store.Put(base(0, 5, 1, "zero")), store.Put(hard(0, 3, 2)),
		store.Put(api.Rec{Group: 1, Kind: api.RecBase, Base: api.Base{Conf: []int{0, 2}}}), store.Put(hard(1, 0, -1)), store.Put(add(1, 1, 1, long)),
	}
	if bodies, end = wal.Scan(d, 22, 42, 3); !slices.EqualFunc(bodies, want, bytes.Equal) || end != 28 {
		t.Errorf("records %x, to %d", bodies, end)
	}
	if got, ok := slot.Choose(d); !ok || got != (slot.Slot{Count: 4, Gen: 3, Area: 1}) || s.Gen() != 3 || s.Used() != 6 {
		t.Errorf("slot: %v", got)
	}
	if got, ok := slot.Read(d.Read(1)); !ok || got != (slot.Slot{Count: 3, Gen: 1, Area: 0}) {
		t.Errorf("the other slot: %v", got)
	}
	open(t, d, 2, 1)
	if got, _ := slot.Choose(d); got != (slot.Slot{Count: 6, Gen: 5, Area: 0}) {
		t.Errorf("slot: %v", got)
	}
}

// P11.2: what isn't a record of the store, or not of its groups, doesn't count.
func TestOpenLeavesOut(t *testing.T) {
	d := pdisk.New(60)
	slot.Set(d, slot.Slot{Count: 8, Gen: 5, Area: 1})
	at := 31
	for _, b := range [][]byte{store.Put(hard(0, 2, 1)), []byte("no record"), store.Put(hard(5, 9, 1)), store.Put(add(1, 1, 1, "x"))} {
		at, _ = wal.Append(d, at, 60, 5, b)
	}
	s := open(t, d, 2, 0)
	zero, one := fresh(0), fresh(0)
	zero.Hard, one.Log = api.Hard{Term: 2, Vote: 1}, []api.Entry{cmd(1, 1, "x")}
	if !same(s.Image(0), zero) || !same(s.Image(1), one) || s.Gen() != 9 {
		t.Errorf("%v, %v, %d", s.Image(0), s.Image(1), s.Gen())
	}
}

// P11.3
func TestSave(t *testing.T) {
	d := pdisk.New(200)
	s := open(t, d, 2, 0)
	for i, r := range append(wrongs(), hard(2, 1, 1)) {
		if e := s.Save(hard(0, 5, 1), r); e != api.ErrForm || !same(s.Image(0), fresh(0)) || s.Used() != 4 {
			t.Errorf("Save of wrong %d: %d", i, e)
		}
	}
	d.Power(0)
	if e := s.Save(); e != api.OK {
		t.Errorf("Save of nothing: %d", e)
	}
	if e := s.Save(hard(0, 5, 1)); e != api.ErrDead || !same(s.Image(0), fresh(0)) || s.Used() != 4 {
		t.Errorf("Save without power: %d", e)
	}
	d.Crash(0, 0)
	want := []api.Image{fresh(0), fresh(0)}
	for _, l := range [][]api.Rec{{hard(0, 5, 1)}, {add(1, 1, 4, "a"), add(0, 1, 5, "b"), add(1, 2, 5, "c")}, {add(1, 2, 6, "d"), hard(1, 6, -1)}, {base(1, 1, 4, "e")}} {
		d.Power(len(l) + 1)
		if e := s.Save(l...); e != api.OK || !d.Dead() {
			t.Errorf("Save: %d, or not in so many steps", e)
		}
		d.Crash(0, 0)
		for _, r := range l {
			want[r.Group] = store.Turn(want[r.Group], r)
		}
		again := open(t, copied(d), 2, 3)
		for g, m := range want {
			if !same(s.Image(g), m) || !same(again.Image(g), m) {
				t.Errorf("image %d: %v, then %v", g, s.Image(g), again.Image(g))
			}
		}
	}
	l := []api.Rec{add(0, 2, 5, "q")}
	s.Save(l...)
	l[0].Entry.Data[0] = 'x'
	m := s.Image(0)
	m.Log[0].Data[0], m.Base.Conf[0] = 'x', 6
	if got := s.Image(0); string(got.Log[1].Data) != "q" || string(got.Log[0].Data) != "b" || got.Base.Conf[0] != 0 {
		t.Errorf("Save, Image share: %v", got)
	}
}

// copied: another disk, with the same sectors.
func copied(d *pdisk.Disk) *pdisk.Disk {
	o := pdisk.New(d.Len())
	for i := range d.Len() {
		o.Write(i, d.Read(i))
	}
	o.Flush()
	return o
}

// P11.3: at the end of an area it is written anew, when that has no room for it, it is ErrSpace.
func TestSpace(t *testing.T) {
	d := pdisk.New(2 + 2*6)
	s := open(t, d, 1, 0)
	for i := range 4 {
		if e := s.Save(hard(0, i, 1)); e != api.OK || s.Gen() != 1 || s.Used() != 3+i {
			t.Errorf("Save %d: %d, gen %d, used %d", i, e, s.Gen(), s.Used())
		}
	}
	if e := s.Save(hard(0, 4, 1)); e != api.OK || s.Gen() != 3 || s.Used() != 2 {
		t.Errorf("Save behind the end: %d, gen %d, used %d", e, s.Gen(), s.Used())
	}
	for i := range 4 {
		if e := s.Save(add(0, i+1, 1, "")); e != api.OK || s.Used() != 3+i {
			t.Errorf("Save of entry %d: %d", i, e)
		}
	}
	was := s.Image(0)
	before, _ := slot.Choose(d)
	d.Power(99)
	for _, l := range [][]api.Rec{{add(0, 5, 1, "")}, {hard(0, 5, 1), add(0, 5, 1, "")}, {base(0, 4, 1, string(make([]byte, 300)))}} {
		if e := s.Save(l...); e != api.ErrSpace || !same(s.Image(0), was) || s.Used() != 6 || s.Gen() != 3 {
			t.Errorf("Save without room: %d", e)
		}
	}
	if now, _ := slot.Choose(d); now != before {
		t.Errorf("Save without room wrote %v", now)
	}
	if e := s.Save(add(0, 2, 2, "")); e != api.OK || s.Gen() != 5 || s.Used() != 4 {
		t.Errorf("Save of a shorter log: %d, used %d", e, s.Used())
	}
	if e := s.Save(base(0, 2, 2, "")); e != api.OK || s.Used() != 5 {
		t.Errorf("Save of a base: %d, used %d", e, s.Used())
	}
}

// P11.4: whenever the power goes, whatever is lost: each Save that told no error is there, of the one that it cut off a beginning.
func TestCrashes(t *testing.T) {
	saves := [][]api.Rec{
		{hard(0, 1, 0), add(0, 1, 1, "a"), add(1, 1, 1, "b")}, {add(0, 2, 1, "c")}, {base(0, 1, 1, "abcdefgh"), hard(0, 2, -1)}, {add(0, 2, 2, "other"), add(0, 3, 2, "d")},
		{base(0, 3, 2, "base"), add(1, 2, 1, "e")}, {hard(1, 7, 2)},
	}
	state := func(s *store.Store) [2]api.Image { return [2]api.Image{s.Image(0), s.Image(1)} }
	for n := range 60 {
		for _, mask := range []uint64{0, 1, 2, 3, 5, 6, 7, 0xff, math.MaxUint64} {
			for _, torn := range []int{-1, 0, 8, 30, 60} {
				d := pdisk.New(2 + 2*11)
				d.Power(n)
				s, e := store.Open(d, 2, 0, 1)
				may := [][2]api.Image{{fresh(0, 1), fresh(0, 1)}}
				for i := 0; e == api.OK && i < len(saves); i++ {
					may = [][2]api.Image{state(s)}
					for _, r := range saves[i] {
						next := may[len(may)-1]
						next[r.Group] = store.Turn(next[r.Group], r)
						may = append(may, next)
					}
					if e = s.Save(saves[i]...); e == api.OK {
						may = may[len(may)-1:]
					}
				}
				d.Crash(mask, torn)
				got := state(open(t, d, 2, 0, 1))
				ok := slices.ContainsFunc(may, func(m [2]api.Image) bool { return same(got[0], m[0]) && same(got[1], m[1]) })
				if !ok {
					t.Fatalf("power for %d, mask %x, torn %d: %v", n, mask, torn, got)
				}
			}
		}
	}
}
