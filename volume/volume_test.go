package volume_test

import (
	"bytes"
	"math"
	"reflect"
	"slices"
	"testing"

	"memento/api"
	"memento/volume"
)

const top = api.MaxTime

func item(block int, data string) api.Item {
	return api.Item{Block: block, Data: []byte(data)}
}

// some: five blocks of two bytes, two a chunk, four writes, of which the floor is behind the first.
func some() api.Volume {
	return api.Volume{Id: 3, Blocks: 5, Size: 2, Per: 2, Place: []int{1, 7, 1}, Floor: 1, Pins: []int64{2, 2, 3}, Writes: []api.Write{
		{Seq: 1, Items: []api.Item{item(0, "aa"), item(4, "ab")}},
		{Seq: 2, Items: []api.Item{item(1, "ba")}},
		{Seq: 3, Items: []api.Item{item(3, "ca"), item(0, "cb"), item(2, "cc")}},
		{Seq: 4, Items: []api.Item{item(4, "da")}},
	}}
}

// hidden: one that is imported, of three calls two.
func hidden() api.Volume {
	return api.Volume{Id: 0, Blocks: 3, Size: 1, Per: 3, Place: []int{2}, Total: 3, Next: 2, Hidden: true, Writes: []api.Write{
		{Seq: 1, Items: []api.Item{item(0, "a")}}, {Seq: 2, Items: []api.Item{item(1, "b")}},
	}}
}

// same: alike, a nil list and an empty one too.
func same(a, b api.Volume) bool {
	trim := func(v *api.Volume) {
		if len(v.Place) == 0 {
			v.Place = nil
		}
		if len(v.Pins) == 0 {
			v.Pins = nil
		}
		if len(v.Writes) == 0 {
			v.Writes = nil
		}
	}
	trim(&a)
	trim(&b)
	return reflect.DeepEqual(a, b)
}

// P16.1
func TestItemsRight(t *testing.T) {
	many := func(n int) []api.Item {
		var l []api.Item
		for i := range n {
			l = append(l, item(n-i, "a"))
		}
		return l
	}
	for i, x := range []struct {
		blocks, size int
		l            []api.Item
		want         bool
	}{
		{3, 2, []api.Item{item(2, "aa"), item(0, "bb")}, true}, {20, 1, many(8), true}, {20, 1, many(9), false}, {3, 2, nil, false},
		{3, 2, []api.Item{item(3, "aa")}, false}, {3, 2, []api.Item{item(-1, "aa")}, false}, {3, 2, []api.Item{item(0, "a")}, false}, {3, 2, []api.Item{item(0, "aaa")}, false},
		{3, 2, []api.Item{item(0, "aa"), item(1, "aa"), item(0, "bb")}, false}, {0, 2, []api.Item{item(0, "aa")}, false}, {math.MinInt, math.MinInt, []api.Item{item(0, "aa")}, false},
		{math.MaxInt, 0, []api.Item{item(math.MaxInt-1, "")}, true},
	} {
		if volume.ItemsRight(x.blocks, x.size, x.l) != x.want {
			t.Errorf("ItemsRight %d", i)
		}
	}
}

// P16.1
func TestLenAndLow(t *testing.T) {
	v := some()
	if volume.Len(v) != 4 || volume.Low(v) != 2 || volume.Len(api.Volume{}) != 0 || volume.Low(api.Volume{}) != 0 {
		t.Error("Len, Low")
	}
	if v.Pins = nil; volume.Low(v) != 4 {
		t.Error("Low without pins")
	}
}

// P16.1
func TestNew(t *testing.T) {
	c := api.VolCmd{Kind: api.Put, Vol: 7, Blocks: 256, Size: 32, Per: 100, Place: []int{7, 1, 1}, At: 5, Index: 9, Items: []api.Item{item(0, "x")}}
	v, e := volume.New(c)
	if e != api.OK || !same(v, api.Volume{Id: 7, Blocks: 256, Size: 32, Per: 100, Place: []int{7, 1, 1}}) || !volume.Right(v) {
		t.Errorf("New: %v, %d", v, e)
	}
	if c.Place[0] = 5; v.Place[0] != 7 {
		t.Error("New shares")
	}
	for _, total := range []int{1, top} {
		c.Total = total
		if v, e := volume.New(c); e != api.OK || !v.Hidden || v.Total != total || v.Next != 0 || !volume.Right(v) {
			t.Errorf("New of Total %d: %v, %d", total, v, e)
		}
	}
	for i, change := range []func(c *api.VolCmd){
		func(c *api.VolCmd) { c.Vol = -1 }, func(c *api.VolCmd) { c.Vol = 8 }, func(c *api.VolCmd) { c.Size = 0 }, func(c *api.VolCmd) { c.Size = 33 },
		func(c *api.VolCmd) { c.Blocks = 0 }, func(c *api.VolCmd) { c.Blocks = 257 }, func(c *api.VolCmd) { c.Blocks, c.Per = math.MinInt, math.MinInt },
		func(c *api.VolCmd) { c.Per = 0 }, func(c *api.VolCmd) { c.Per = -1 }, func(c *api.VolCmd) { c.Per, c.Place = 257, []int{1} }, func(c *api.VolCmd) { c.Per = 128 }, func(c *api.VolCmd) { c.Per = 80 },
		func(c *api.VolCmd) { c.Place = nil }, func(c *api.VolCmd) { c.Place[1] = 0 }, func(c *api.VolCmd) { c.Place[2] = 8 }, func(c *api.VolCmd) { c.Place[2] = -1 },
		func(c *api.VolCmd) { c.Total = -1 }, func(c *api.VolCmd) { c.Total = top + 1 },
	} {
		o := c
		o.Place = slices.Clone(c.Place)
		change(&o)
		if v, e := volume.New(o); e != api.ErrForm || !same(v, api.Volume{}) {
			t.Errorf("New of wrong %d: %v, %d", i, v, e)
		}
	}
}

// wrongs: volumes that may not be.
func wrongs() []api.Volume {
	var l []api.Volume
	for _, change := range []func(v *api.Volume){
		func(v *api.Volume) { v.Id = 8 }, func(v *api.Volume) { v.Id = -1 }, func(v *api.Volume) { v.Blocks = 7 }, func(v *api.Volume) { v.Blocks = 4 }, func(v *api.Volume) { v.Size = 3 },
		func(v *api.Volume) { v.Per = 1 }, func(v *api.Volume) { v.Per = 0 }, func(v *api.Volume) { v.Place = v.Place[:2] }, func(v *api.Volume) { v.Place[0] = 0 },
		func(v *api.Volume) { v.Total = 1 }, func(v *api.Volume) { v.Next = 1 }, func(v *api.Volume) { v.Hidden = true }, func(v *api.Volume) { v.Total, v.Next, v.Hidden = 2, 3, true },
		func(v *api.Volume) { v.Total, v.Next = 2, 1 }, func(v *api.Volume) { v.Next = -1 },
		func(v *api.Volume) { v.Floor = -1 }, func(v *api.Volume) { v.Floor, v.Pins = 5, nil }, func(v *api.Volume) { v.Floor = 3 },
		func(v *api.Volume) { v.Pins = []int64{3, 2} }, func(v *api.Volume) { v.Pins = []int64{0} }, func(v *api.Volume) { v.Pins = []int64{5} },
		func(v *api.Volume) { v.Writes[1].Seq = 3 }, func(v *api.Volume) { v.Writes[0].Seq = 0 }, func(v *api.Volume) { v.Writes[3].Items = nil }, func(v *api.Volume) { v.Writes[3].Items[0].Block = 5 },
	} {
		v := some()
		change(&v)
		l = append(l, v)
	}
	return append(l, api.Volume{})
}

// P16.1
func TestRight(t *testing.T) {
	v := some()
	v.Total, v.Next = 4, 4
	h := hidden()
	h.Next = 3
	for i, v := range []api.Volume{some(), hidden(), v, h} {
		if !volume.Right(v) {
			t.Errorf("%d isn't right", i)
		}
	}
	for i, v := range wrongs() {
		if volume.Right(v) {
			t.Errorf("wrong %d is right", i)
		}
	}
}

// P16.2
func TestDo(t *testing.T) {
	ok := func(change func(v *api.Volume)) func(v *api.Volume) { return change }
	write := func(seq int64, l ...api.Item) func(v *api.Volume) {
		return func(v *api.Volume) { v.Writes = append(v.Writes, api.Write{Seq: seq, Items: l}) }
	}
	full := hidden()
	full.Next, full.Writes = 3, append(full.Writes, api.Write{Seq: 3, Items: []api.Item{item(2, "c")}})
	for i, x := range []struct {
		v    api.Volume
		c    api.VolCmd
		e    api.Errno
		then func(v *api.Volume)
	}{
		{some(), api.VolCmd{Kind: api.Put, Vol: 99, Items: []api.Item{item(2, "ea"), item(0, "eb")}}, api.OK, write(5, item(2, "ea"), item(0, "eb"))},
		{some(), api.VolCmd{Kind: api.Put, Items: []api.Item{item(5, "ea")}}, api.ErrForm, nil},
		{some(), api.VolCmd{Kind: api.Put}, api.ErrForm, nil},
		{hidden(), api.VolCmd{Kind: api.Put}, api.ErrNone, nil},
		{some(), api.VolCmd{Kind: api.Prune, At: 1}, api.OK, ok(func(v *api.Volume) {})},
		{some(), api.VolCmd{Kind: api.Prune, At: 2}, api.OK, ok(func(v *api.Volume) { v.Floor = 2 })},
		{some(), api.VolCmd{Kind: api.Prune, At: 0}, api.ErrPruned, nil},
		{some(), api.VolCmd{Kind: api.Prune, At: math.MinInt64}, api.ErrPruned, nil},
		{some(), api.VolCmd{Kind: api.Prune, At: 3}, api.ErrFuture, nil},
		{some(), api.VolCmd{Kind: api.Prune, At: math.MaxInt64}, api.ErrFuture, nil},
		{hidden(), api.VolCmd{Kind: api.Prune, At: -1}, api.ErrNone, nil},
		{some(), api.VolCmd{Kind: api.Pin, At: 1}, api.OK, ok(func(v *api.Volume) { v.Pins = []int64{1, 2, 2, 3} })},
		{some(), api.VolCmd{Kind: api.Pin, At: 2}, api.OK, ok(func(v *api.Volume) { v.Pins = []int64{2, 2, 2, 3} })},
		{some(), api.VolCmd{Kind: api.Pin, At: 4}, api.OK, ok(func(v *api.Volume) { v.Pins = []int64{2, 2, 3, 4} })},
		{some(), api.VolCmd{Kind: api.Pin, At: 0}, api.ErrPruned, nil},
		{some(), api.VolCmd{Kind: api.Pin, At: 5}, api.ErrFuture, nil},
		{hidden(), api.VolCmd{Kind: api.Pin, At: 9}, api.ErrNone, nil},
		{some(), api.VolCmd{Kind: api.Unpin, At: 2}, api.OK, ok(func(v *api.Volume) { v.Pins = []int64{2, 3} })},
		{some(), api.VolCmd{Kind: api.Unpin, At: 3}, api.OK, ok(func(v *api.Volume) { v.Pins = []int64{2, 2} })},
		{some(), api.VolCmd{Kind: api.Unpin, At: 1}, api.ErrNone, nil},
		{hidden(), api.VolCmd{Kind: api.Unpin, At: 1}, api.ErrNone, nil},
		{hidden(), api.VolCmd{Kind: api.Import, Index: 2, Items: []api.Item{item(0, "z")}}, api.OK, ok(func(v *api.Volume) {
			v.Next = 3
			write(3, item(0, "z"))(v)
		})},
		{hidden(), api.VolCmd{Kind: api.Import, Index: 1, Items: []api.Item{item(9, "zz")}}, api.OK, ok(func(v *api.Volume) {})},
		{hidden(), api.VolCmd{Kind: api.Import, Index: 0}, api.OK, ok(func(v *api.Volume) {})},
		{hidden(), api.VolCmd{Kind: api.Import, Index: -1, Items: []api.Item{item(0, "z")}}, api.ErrGap, nil},
		{hidden(), api.VolCmd{Kind: api.Import, Index: 3, Items: []api.Item{item(0, "z")}}, api.ErrGap, nil},
		{hidden(), api.VolCmd{Kind: api.Import, Index: 2, Items: []api.Item{item(0, "zz")}}, api.ErrForm, nil},
		{full, api.VolCmd{Kind: api.Import, Index: 3, Items: []api.Item{item(0, "z")}}, api.ErrGap, nil},
		{full, api.VolCmd{Kind: api.Import, Index: 2}, api.OK, ok(func(v *api.Volume) {})},
		{some(), api.VolCmd{Kind: api.Import, Index: 0, Items: []api.Item{item(0, "zz")}}, api.ErrGap, nil},
		{full, api.VolCmd{Kind: api.Publish}, api.OK, ok(func(v *api.Volume) { v.Hidden, v.Floor = false, 3 })},
		{hidden(), api.VolCmd{Kind: api.Publish}, api.ErrGap, nil},
		{some(), api.VolCmd{Kind: api.Publish}, api.ErrGap, nil},
		{some(), api.VolCmd{Kind: api.Stat, At: -9}, api.OK, ok(func(v *api.Volume) {})},
		{hidden(), api.VolCmd{Kind: api.Stat}, api.OK, ok(func(v *api.Volume) {})},
		{some(), api.VolCmd{Kind: api.Create}, api.ErrForm, nil},
		{some(), api.VolCmd{Kind: 0}, api.ErrForm, nil},
		{hidden(), api.VolCmd{Kind: 9}, api.ErrForm, nil},
	} {
		got, r := volume.Do(x.v, x.c)
		want, reply := x.v, api.Reply{Code: x.e}
		if x.then != nil {
			x.then(&want)
			reply = api.Reply{Len: int64(len(want.Writes)), Floor: want.Floor, Next: want.Next}
		}
		if !same(got, want) || !reflect.DeepEqual(r, reply) || !volume.Right(got) {
			t.Errorf("Do %d: %v, %v", i, got, r)
		}
	}
}

// P16.2: nothing is shared.
func TestDoShares(t *testing.T) {
	v := some()
	v.Writes = append(make([]api.Write, 0, 9), v.Writes...)
	v.Pins = append(make([]int64, 0, 9), v.Pins...)
	for kind := range 10 {
		c := api.VolCmd{Kind: kind, At: 2, Items: []api.Item{item(0, "xx")}}
		got, _ := volume.Do(v, c)
		for i := range got.Writes {
			got.Writes[i].Items[0].Data[0] = '!'
		}
		got.Place[0] = 5
		for i := range got.Pins {
			got.Pins[i] = 0
		}
		if !same(v, some()) || v.Writes[:5][4].Seq != 0 || v.Pins[:4][3] != 0 || c.Items[0].Data[0] != 'x' {
			t.Fatalf("Do of kind %d shares", kind)
		}
	}
}

// P16.3
func TestPush(t *testing.T) {
	v := some()
	for i := range 3 {
		v.Writes = append(v.Writes, api.Write{Seq: int64(5 + i), Items: []api.Item{item(i, "ea")}})
	}
	push := func(chunk, count int, from, to, floor int64, l ...api.Write) api.PushCmd {
		return api.PushCmd{Vol: 3, Chunk: chunk, Count: count, Size: 2, From: from, To: to, Floor: floor, Writes: l}
	}
	w := func(seq int64, l ...api.Item) api.Write { return api.Write{Seq: seq, Items: l} }
	for i, x := range []struct {
		chunk int
		mark  int64
		want  api.PushCmd
		ok    bool
	}{
		{0, 0, push(0, 2, 0, 4, 1, w(1, item(0, "aa")), w(2, item(1, "ba")), w(3, item(0, "cb"))), true},
		{1, 0, push(1, 2, 0, 4, 1, w(3, item(1, "ca"), item(0, "cc"))), true},
		{2, 0, push(2, 1, 0, 4, 1, w(1, item(0, "ab")), w(4, item(0, "da"))), true},
		{2, 1, push(2, 1, 1, 5, 1, w(4, item(0, "da"))), true},
		{0, 4, push(0, 2, 4, 7, 1, w(5, item(0, "ea")), w(6, item(1, "ea"))), true},
		{1, 7, push(1, 2, 7, 7, 1), true},
		{1, 8, api.PushCmd{}, false}, {1, -1, api.PushCmd{}, false}, {3, 0, api.PushCmd{}, false}, {-1, 0, api.PushCmd{}, false},
		{math.MaxInt, math.MaxInt64, api.PushCmd{}, false}, {math.MinInt, math.MinInt64, api.PushCmd{}, false},
	} {
		got, ok := volume.Push(v, x.chunk, x.mark)
		if ok != x.ok || !reflect.DeepEqual(got, x.want) {
			t.Errorf("Push %d: %v, %v", i, got, ok)
		}
	}
	v.Floor, v.Pins = 6, nil
	if got, _ := volume.Push(v, 0, 0); got.Floor != 4 {
		t.Errorf("a floor behind To: %d", got.Floor)
	}
	if got, _ := volume.Push(v, 0, 3); got.Floor != 6 {
		t.Errorf("a floor ahead of To: %d", got.Floor)
	}
	got, _ := volume.Push(v, 0, 0)
	if got.Writes[0].Items[0].Data[0] = '!'; v.Writes[0].Items[0].Data[0] != 'a' {
		t.Error("Push shares")
	}
}

// P16.3, P16.4
func TestState(t *testing.T) {
	v := some()
	for at, want := range map[int64][]string{1: {"aa", "\x00\x00", "\x00\x00", "\x00\x00", "ab"}, 2: {"aa", "ba", "\x00\x00", "\x00\x00", "ab"}, 3: {"cb", "ba", "cc", "ca", "ab"}, 4: {"cb", "ba", "cc", "ca", "da"}} {
		got, e := volume.State(v, at)
		if e != api.OK || len(got) != 5 {
			t.Fatalf("State %d: %v, %d", at, got, e)
		}
		for i := range got {
			if string(got[i]) != want[i] {
				t.Errorf("State %d: %q", at, got)
			}
			got[i][0] = '!'
		}
	}
	if !same(v, some()) {
		t.Error("State shares")
	}
	for at, want := range map[int64]api.Errno{0: api.ErrPruned, math.MinInt64: api.ErrPruned, 5: api.ErrFuture, math.MaxInt64: api.ErrFuture} {
		if got, e := volume.State(v, at); e != want || got != nil {
			t.Errorf("State %d: %d", at, e)
		}
	}
	v.Floor = 0
	if got, e := volume.State(v, 0); e != api.OK || !slices.EqualFunc(got, make([][]byte, 5), func(a, b []byte) bool { return bytes.Equal(a, []byte{0, 0}) }) {
		t.Errorf("State 0: %v, %d", got, e)
	}
}

// Volumes that aren't right: it ends, and doesn't panic.
func TestAllArguments(t *testing.T) {
	odd := append(wrongs(),
		api.Volume{Blocks: math.MaxInt, Size: math.MaxInt, Per: math.MaxInt, Place: []int{1, 2, 3}, Floor: -5, Writes: some().Writes},
		api.Volume{Blocks: math.MinInt, Size: math.MinInt, Per: math.MinInt, Place: []int{1, 2, 3}, Floor: math.MinInt64, Hidden: true, Next: math.MinInt, Total: math.MaxInt, Writes: some().Writes},
	)
	for _, v := range odd {
		volume.Low(v)
		for kind := -1; kind < 10; kind++ {
			volume.Do(v, api.VolCmd{Kind: kind, At: 2, Index: 2, Items: []api.Item{item(0, "aa")}})
		}
		for _, at := range []int64{math.MinInt64, -1, 0, 2, 4, math.MaxInt64} {
			volume.State(v, at)
			for chunk := -1; chunk < 4; chunk++ {
				volume.Push(v, chunk, at)
			}
		}
	}
}

// P40.6: a Prune leaves each state from its floor on as it was.
func TestPruneLeavesStates(t *testing.T) {
	v := some()
	v.Pins = nil
	for at := v.Floor; at <= volume.Len(v); at++ {
		p, r := volume.Do(v, api.VolCmd{Kind: api.Prune, At: at})
		if r.Code != api.OK || r.Floor != at || r.Len != volume.Len(v) {
			t.Fatalf("Prune to %d: %v", at, r)
		}
		for later := at; later <= volume.Len(v); later++ {
			was, _ := volume.State(v, later)
			is, e := volume.State(p, later)
			if e != api.OK || !reflect.DeepEqual(is, was) {
				t.Errorf("pruned to %d it is %q at %d, not %q", at, is, later, was)
			}
		}
	}
}
