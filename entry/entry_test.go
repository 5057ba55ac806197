package entry_test

import (
	"bytes"
	"math"
	"testing"

	"memento/api"
	"memento/entry"
	"memento/pack"
)

const most = api.MaxBody / 2

var rights = []api.Entry{
	{Index: 1},
	{Index: api.MaxTime, Term: api.MaxTime, Kind: api.Noop},
	{Index: 5, Term: 3, Kind: api.Cmd},
	{Index: 5, Term: 3, Kind: api.Cmd, Data: []byte("abc")},
	{Index: 300, Term: 3, Kind: api.Cmd, Data: make([]byte, most)},
	{Index: 5, Term: 3, Kind: api.Conf, Data: []byte{6, 1}},
	{Index: 5, Term: 3, Kind: api.Conf, Data: []byte{0, 0}},
}

var wrongs = []api.Entry{
	{},
	{Index: -1},
	{Index: api.MaxTime + 1},
	{Index: 1, Term: -1},
	{Index: 1, Term: api.MaxTime + 1},
	{Index: 1, Kind: -1},
	{Index: 1, Kind: 3},
	{Index: 1, Kind: api.Noop, Data: []byte{0}},
	{Index: 1, Kind: api.Cmd, Data: make([]byte, most+1)},
	{Index: 1, Kind: api.Conf},
	{Index: 1, Kind: api.Conf, Data: []byte{0}},
	{Index: 1, Kind: api.Conf, Data: []byte{0, 0, 0}},
	{Index: 1, Kind: api.Conf, Data: []byte{7, 0}},
	{Index: 1, Kind: api.Conf, Data: []byte{0, 2}},
	{Index: math.MinInt, Term: math.MinInt, Kind: math.MinInt},
	{Index: math.MaxInt, Term: math.MaxInt, Kind: math.MaxInt},
}

// P8.1
func TestRightAndPut(t *testing.T) {
	for i, e := range rights {
		want := pack.Join(pack.Put(uint64(e.Index), uint64(e.Term), uint64(e.Kind)), pack.Lump(e.Data))
		if !entry.Right(e) || !bytes.Equal(entry.Put(e), want) {
			t.Errorf("%d: %x", i, entry.Put(e))
		}
	}
	for i, e := range wrongs {
		if entry.Right(e) || len(entry.Put(e)) != 0 {
			t.Errorf("wrong %d: %x", i, entry.Put(e))
		}
	}
	if got := entry.Put(api.Entry{Index: 300, Term: 2, Kind: api.Cmd, Data: []byte("ab")}); string(got) != "\xac\x02\x02\x01\x02ab" {
		t.Errorf("Put: %x", got)
	}
}

// P8.1, P8.2
func TestRead(t *testing.T) {
	var b []byte
	for _, e := range rights {
		b = append(b, entry.Put(e)...)
	}
	r := pack.New(b)
	for i, e := range rights {
		if got, ok := entry.Read(r); !ok || !entry.Same(got, e) {
			t.Errorf("Read %d: %v", i, ok)
		}
	}
	if r.Left() != 0 {
		t.Errorf("%d left", r.Left())
	}
	for _, s := range []string{
		"", "\x01", "\x01\x02\x01", "\x01\x02\x01\x02a", // not all of it
		"\x00\x02\x01\x00",                      // Index 0
		"\x81\x80\x80\x80\x80\x20\x02\x01\x00",  // an Index of MaxTime and 1
		"\x01\x81\x80\x80\x80\x80\x20\x01\x00",  // such a Term
		"\x01\x02\x03\x00", "\x01\x02\x00\x01a", // kinds
		"\x01\x02\x02\x02\x07\x00", "\x01\x02\x02\x01\x00", // members
		"\x01\x02\x81\x00\x00", // no number
	} {
		if got, ok := entry.Read(pack.New([]byte(s))); ok || !entry.Same(got, api.Entry{}) {
			t.Errorf("Read of %x: %v, %v", s, got, ok)
		}
	}
	long := pack.Join(pack.Put(1, 1, 1), pack.Lump(make([]byte, most+1)))
	if _, ok := entry.Read(pack.New(long)); ok {
		t.Error("Read of too much Data")
	}
	if got, ok := entry.Read(nil); ok || !entry.Same(got, api.Entry{}) {
		t.Error("Read of nil")
	}
}

var rightBases = []api.Base{
	{Conf: []int{0}},
	{Index: api.MaxTime, Term: api.MaxTime, Conf: []int{0, 1, 2, 3, 4, 5, 6}},
	{Index: 7, Term: 2, Conf: []int{1, 6}, Data: []byte("abc")},
	{Index: 7, Term: 2, Conf: []int{1, 6}, Data: make([]byte, most)},
}

var wrongBases = []api.Base{
	{},
	{Index: -1, Conf: []int{0}},
	{Index: api.MaxTime + 1, Conf: []int{0}},
	{Term: -1, Conf: []int{0}},
	{Term: api.MaxTime + 1, Conf: []int{0}},
	{Conf: []int{7}},
	{Conf: []int{-1}},
	{Conf: []int{2, 1}},
	{Conf: []int{2, 2}},
	{Conf: []int{0, 1, 2, 3, 4, 5, 6, 6}},
	{Conf: []int{0}, Data: make([]byte, most+1)},
}

// P8.1
func TestBaseRightAndPut(t *testing.T) {
	for i, b := range rightBases {
		want := pack.Put(uint64(b.Index), uint64(b.Term), uint64(len(b.Conf)))
		for _, n := range b.Conf {
			want = append(want, byte(n))
		}
		want = append(want, pack.Lump(b.Data)...)
		if !entry.BaseRight(b) || !bytes.Equal(entry.PutBase(b), want) {
			t.Errorf("%d: %x", i, entry.PutBase(b))
		}
	}
	for i, b := range wrongBases {
		if entry.BaseRight(b) || len(entry.PutBase(b)) != 0 {
			t.Errorf("wrong %d: %x", i, entry.PutBase(b))
		}
	}
}

// P8.1, P8.2
func TestReadBase(t *testing.T) {
	var all []byte
	for _, b := range rightBases {
		all = append(all, entry.PutBase(b)...)
	}
	r := pack.New(all)
	for i, b := range rightBases {
		if got, ok := entry.ReadBase(r); !ok || !entry.SameBase(got, b) {
			t.Errorf("ReadBase %d: %v", i, ok)
		}
	}
	if r.Left() != 0 {
		t.Errorf("%d left", r.Left())
	}
	for _, s := range []string{
		"", "\x01", "\x01\x02", "\x01\x02\x01", "\x01\x02\x01\x00", "\x01\x02\x01\x00\x01", // not all of it
		"\x01\x02\x00\x00",         // no members
		"\x01\x02\x01\x07\x00",     // no such node
		"\x01\x02\x02\x01\x00\x00", // not rising
		"\x01\x02\x08\x00\x01\x02\x03\x04\x05\x06\x06\x00",
		"\x81\x80\x80\x80\x80\x20\x02\x01\x00\x00",
		"\x01\x02\xff\xff\xff\xff\xff\xff\xff\xff\x7f\x00",
	} {
		if got, ok := entry.ReadBase(pack.New([]byte(s))); ok || !entry.SameBase(got, api.Base{}) {
			t.Errorf("ReadBase of %x: %v, %v", s, got, ok)
		}
	}
	if got, ok := entry.ReadBase(nil); ok || !entry.SameBase(got, api.Base{}) {
		t.Error("ReadBase of nil")
	}
}

// P8.1
func TestSame(t *testing.T) {
	e := api.Entry{Index: 1, Term: 2, Kind: 1, Data: []byte("a")}
	if !entry.Same(e, api.Entry{Index: 1, Term: 2, Kind: 1, Data: []byte("a")}) || !entry.Same(api.Entry{Data: []byte{}}, api.Entry{}) {
		t.Error("alike ones aren't")
	}
	for i, o := range []api.Entry{{Index: 2, Term: 2, Kind: 1, Data: e.Data}, {Index: 1, Term: 3, Kind: 1, Data: e.Data}, {Index: 1, Term: 2, Kind: 0, Data: e.Data}, {Index: 1, Term: 2, Kind: 1, Data: []byte("b")}, {Index: 1, Term: 2, Kind: 1, Data: nil}} {
		if entry.Same(e, o) || entry.Same(o, e) {
			t.Errorf("entry %d is alike", i)
		}
	}
	b := api.Base{Index: 1, Term: 2, Conf: []int{1, 2}, Data: []byte("a")}
	if !entry.SameBase(b, api.Base{Index: 1, Term: 2, Conf: []int{1, 2}, Data: []byte("a")}) || !entry.SameBase(api.Base{Conf: []int{}, Data: []byte{}}, api.Base{}) {
		t.Error("alike bases aren't")
	}
	for i, o := range []api.Base{{Index: 2, Term: 2, Conf: b.Conf, Data: b.Data}, {Index: 1, Term: 3, Conf: b.Conf, Data: b.Data}, {Index: 1, Term: 2, Conf: []int{1}, Data: b.Data}, {Index: 1, Term: 2, Conf: []int{1, 3}, Data: b.Data}, {Index: 1, Term: 2, Conf: b.Conf, Data: nil}, {Index: 1, Term: 2, Conf: b.Conf, Data: []byte("b")}} {
		if entry.SameBase(b, o) || entry.SameBase(o, b) {
			t.Errorf("base %d is alike", i)
		}
	}
}
