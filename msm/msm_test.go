package msm_test

import (
	"bytes"
	"math"
	"reflect"
	"slices"
	"testing"

	"memento/api"
	"memento/msm"
	"memento/pack"
	"memento/volume"
)

const top = api.MaxTime

func item(block int, data string) api.Item {
	return api.Item{Block: block, Data: []byte(data)}
}

func num(l ...int) []byte {
	var b []byte
	for _, n := range l {
		b = append(b, pack.Put(uint64(n))...)
	}
	return b
}

func rights() []api.VolCmd {
	var place []int
	for i := range 256 {
		place = append(place, i%8)
	}
	return []api.VolCmd{
		{Kind: api.Create},
		{Kind: api.Stat, Vol: 7, Blocks: top, Size: top, Per: top, Total: top, Index: top, At: top},
		{Kind: api.Put, Vol: 2, Place: place, Items: []api.Item{item(255, "a"), item(0, ""), item(0, "b"), item(1, string(make([]byte, 32))), {}, {}, {}, {}}},
		{Kind: api.Create, Vol: 1, Blocks: 300, Size: 2, Per: 3, Place: []int{1, 0}, Total: 4, At: 5, Index: 6, Items: []api.Item{item(7, "ab")}},
	}
}

// wrongs: calls that may not be.
func wrongs() []api.VolCmd {
	var l []api.VolCmd
	for _, n := range []int{-1, top + 1, math.MinInt, math.MaxInt} {
		for _, c := range rights() {
			all := []api.VolCmd{c, c, c, c, c, c, c, c, c, c}
			all[0].Kind, all[1].Vol, all[2].Blocks, all[3].Size, all[4].Per, all[5].Total, all[6].Index, all[7].At = n, n, n, n, n, n, n, int64(n)
			all[8].Place, all[9].Items = []int{1, n}, []api.Item{item(1, "a"), item(n, "a")}
			l = append(l, all...)
		}
	}
	return append(l, api.VolCmd{}, api.VolCmd{Kind: 9}, api.VolCmd{Kind: 1, Vol: 8}, api.VolCmd{Kind: 1, Place: make([]int, 257)}, api.VolCmd{Kind: 1, Place: []int{8}},
		api.VolCmd{Kind: 1, Items: make([]api.Item, 9)}, api.VolCmd{Kind: 1, Items: []api.Item{item(256, "")}}, api.VolCmd{Kind: 1, Items: []api.Item{item(1, string(make([]byte, 33)))}})
}

// P17.1
func TestCmds(t *testing.T) {
	for i, c := range rights() {
		want := pack.Join(num(c.Kind, c.Vol, c.Blocks, c.Size, c.Per, c.Total, int(c.At), c.Index, len(c.Place)), num(c.Place...), num(len(c.Items)))
		for _, x := range c.Items {
			want = append(want, pack.Join(num(x.Block), pack.Lump(x.Data))...)
		}
		got, e := msm.PutCmd(c)
		if !msm.CmdRight(c) || e != api.OK || !bytes.Equal(got, want) {
			t.Errorf("PutCmd %d: %x, %d", i, got, e)
		}
		back, e := msm.ReadCmd(want)
		again, _ := msm.PutCmd(back)
		if e != api.OK || !bytes.Equal(again, want) {
			t.Errorf("ReadCmd %d: %v, %d", i, back, e)
		}
	}
	for i, c := range wrongs() {
		if b, e := msm.PutCmd(c); msm.CmdRight(c) || e != api.ErrForm || len(b) != 0 {
			t.Errorf("wrong %d: %d", i, e)
		}
	}
}

// others: bytes that are no call.
func others() [][]byte {
	right := "\x01\x01\xac\x02\x02\x03\x04\x05\x06\x02\x01\x00\x01\x07\x02ab"
	l := [][]byte{nil, []byte(right + "\x00"), []byte("\x81\x00" + right[1:]), []byte("\x00" + right[1:]), []byte("\x09" + right[1:]), []byte("\x01\x08" + right[2:])}
	for i := range right {
		l = append(l, []byte(right[:i]))
	}
	big := pack.Put(top)
	return append(l, pack.Join(num(1, 1, 1, 1, 1, 1, 1, 1), big), pack.Join(num(1, 1, 1, 1, 1, 1, 1, 1, 0), big), pack.Join(num(1, 1, 1, 1, 1, 1, 1, top+1, 0, 0)), num(1, 1, 1, 1, 1, 1, 1, 1, 1, 8, 0))
}

// P17.1
func TestReadCmdOfNone(t *testing.T) {
	for i, b := range others() {
		if c, e := msm.ReadCmd(b); e != api.ErrBytes || !reflect.DeepEqual(c, api.VolCmd{}) {
			t.Errorf("ReadCmd of none %d: %v, %d", i, c, e)
		}
		if r := msm.New().Apply(b); !reflect.DeepEqual(r, api.Reply{Code: api.ErrBytes}) {
			t.Errorf("Apply of none %d: %v", i, r)
		}
	}
}

func apply(t *testing.T, m *msm.Machine, c api.VolCmd) api.Reply {
	t.Helper()
	b, e := msm.PutCmd(c)
	if e != api.OK {
		t.Fatal(e)
	}
	return m.Apply(b)
}

func create(id int) api.VolCmd {
	return api.VolCmd{Kind: api.Create, Vol: id, Blocks: 3, Size: 2, Per: 2, Place: []int{1, 2}}
}

func put(id int, l ...api.Item) api.VolCmd {
	return api.VolCmd{Kind: api.Put, Vol: id, Items: l}
}

// filled: a machine with volumes 1, 5 and 7.
func filled(t *testing.T) *msm.Machine {
	t.Helper()
	m := msm.New()
	imported := create(7)
	imported.Total = 2
	for i, c := range []api.VolCmd{
		create(5), create(1), imported, put(5, item(2, "aa"), item(0, "ab")), put(5, item(1, "ba")), put(5, item(1, "ca")), {Kind: api.Prune, Vol: 5, At: 1}, {Kind: api.Pin, Vol: 5, At: 2}, {Kind: api.Pin, Vol: 5, At: 2},
		{Kind: api.Import, Vol: 7, Items: []api.Item{item(0, "zz")}},
	} {
		if r := apply(t, m, c); r.Code != api.OK {
			t.Fatalf("call %d: %d", i, r.Code)
		}
	}
	return m
}

// same: alike, by what can be told of them.
func same(a, b *msm.Machine) bool {
	return reflect.DeepEqual(a.All(), b.All()) && bytes.Equal(a.Snap(), b.Snap())
}

// P17.2
func TestApply(t *testing.T) {
	m := msm.New()
	if r := apply(t, m, put(5, item(0, "aa"))); !reflect.DeepEqual(r, api.Reply{Code: api.ErrNone}) || len(m.All()) != 0 {
		t.Errorf("Put to none: %v", r)
	}
	wrong := create(5)
	wrong.Size = 33
	if r := apply(t, m, wrong); !reflect.DeepEqual(r, api.Reply{Code: api.ErrForm}) || len(m.All()) != 0 {
		t.Errorf("Create of a wrong one: %v", r)
	}
	if r := apply(t, m, create(5)); !reflect.DeepEqual(r, api.Reply{}) {
		t.Errorf("Create: %v", r)
	}
	for _, c := range []api.VolCmd{create(5), wrong} {
		if r := apply(t, m, c); !reflect.DeepEqual(r, api.Reply{Code: api.ErrExists}) {
			t.Errorf("Create again: %v", r)
		}
	}
	want, _ := volume.New(create(5))
	for i, c := range []api.VolCmd{
		put(5, item(0, "aa")), put(5, item(3, "aa")), put(5, item(1, "bb")), {Kind: api.Pin, Vol: 5, At: 1}, {Kind: api.Prune, Vol: 5, At: 2}, {Kind: api.Prune, Vol: 5, At: 1}, {Kind: api.Unpin, Vol: 5, At: 1},
		{Kind: api.Import, Vol: 5}, {Kind: api.Publish, Vol: 5}, {Kind: api.Stat, Vol: 5}, {Kind: api.Stat, Vol: 6},
	} {
		var reply api.Reply
		if c.Vol == 5 {
			want, reply = volume.Do(want, c)
		} else {
			reply.Code = api.ErrNone
		}
		r := apply(t, m, c)
		got, ok := m.Volume(5)
		if len(want.Pins) == 0 {
			want.Pins = nil
		}
		if !reflect.DeepEqual(r, reply) || !ok || !reflect.DeepEqual(got, want) {
			t.Errorf("call %d: %v, %v", i, r, got)
		}
	}
}

// P17.2
func TestVolumeAndAll(t *testing.T) {
	m := filled(t)
	var ids []int
	for _, v := range m.All() {
		ids = append(ids, v.Id)
		if got, ok := m.Volume(v.Id); !ok || !reflect.DeepEqual(got, v) || !volume.Right(v) {
			t.Errorf("Volume: %v, %v", got, ok)
		}
	}
	if !slices.Equal(ids, []int{1, 5, 7}) || len(msm.New().All()) != 0 {
		t.Errorf("All: %v", ids)
	}
	for _, id := range []int{0, -1, 8, math.MaxInt} {
		if got, ok := m.Volume(id); ok || !reflect.DeepEqual(got, api.Volume{}) {
			t.Errorf("Volume %d: %v", id, got)
		}
	}
	for _, v := range append(m.All(), func() api.Volume { v, _ := m.Volume(5); return v }()) {
		v.Place[0] = 9
		for i := range v.Pins {
			v.Pins[i] = 9
		}
		for _, w := range v.Writes {
			w.Items[0].Data[0] = '!'
		}
	}
	if !same(m, filled(t)) {
		t.Error("Volume, All share")
	}
}

// P17.2, P17.3
func TestSnapAndLoad(t *testing.T) {
	m := filled(t)
	want := "\x03" +
		"\x01\x03\x02\x02\x02\x01\x02\x00\x00\x00\x00\x00\x00" +
		"\x05\x03\x02\x02\x02\x01\x02\x00\x00\x00\x01\x02\x02\x02\x03" + "\x02\x02\x02aa\x00\x02ab" + "\x01\x01\x02ba" + "\x01\x01\x02ca" +
		"\x07\x03\x02\x02\x02\x01\x02\x02\x01\x01\x00\x00\x01" + "\x01\x00\x02zz"
	if got := m.Snap(); string(got) != want {
		t.Errorf("Snap:\n%x\n%x", got, want)
	}
	if got := msm.New().Snap(); string(got) != "\x00" {
		t.Errorf("Snap of a new one: %x", got)
	}
	o := msm.New()
	apply(t, o, create(0))
	if !o.Load([]byte(want)) || !same(o, m) {
		t.Errorf("Load: %v", o.All())
	}
	apply(t, o, put(1, item(0, "nn")))
	if !same(m, filled(t)) || same(o, m) {
		t.Error("Load shares")
	}
	if !o.Load([]byte{0}) || len(o.All()) != 0 {
		t.Error("Load of nothing")
	}
}

// P17.2
func TestLoadOfNone(t *testing.T) {
	m := filled(t)
	snap := string(m.Snap())
	one := "\x01\x03\x02\x02\x02\x01\x02\x00\x00\x00\x00\x00\x00"
	five := "\x05" + one[1:]
	if !msm.New().Load([]byte("\x02"+one+five)) || !msm.New().Load([]byte("\x01"+five)) {
		t.Fatal("no Load of right ones")
	}
	l := []string{
		"\x00\x00", "\x01", snap + "\x00", "\x02" + five + one, "\x02" + one + one, "\x01" + one + five, "\x80\x00", "\x09", "\xff\xff\xff\xff\xff\xff\xff\xff\x7f",
		"\x01" + "\x08" + one[1:], "\x01" + one[:7] + "\x00\x01\x00\x00\x00\x00", "\x01" + one[:7] + "\x00\x00\x01\x00\x00\x00", "\x01" + one[:7] + "\x00\x00\x02\x00\x00\x00",
		"\x01" + one[:7] + "\x00\x00\x00\x01\x00\x00", "\x01" + one[:7] + "\x00\x00\x00\x00\x01\x01\x00", "\x01" + one[:7] + "\x00\x00\x00\x00\x00\x01\x00", "\x01" + one[:7] + "\x00\x00\x00\x00\x00\x80\x80\x80\x80\x80\x20",
	}
	for i := range snap {
		l = append(l, snap[:i])
	}
	for i, s := range l {
		if m.Load([]byte(s)) {
			t.Errorf("Load of none %d: %x", i, s)
		}
	}
	if !same(m, filled(t)) {
		t.Error("Load of none changes")
	}
}
