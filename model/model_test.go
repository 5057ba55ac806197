package model_test

import (
	"math"
	"slices"
	"testing"

	"memento/api"
	"memento/model"
	"memento/volume"
)

func item(block int, data string) api.Item {
	return api.Item{Block: block, Data: []byte(data)}
}

func create(id, total int) api.VolCmd {
	return api.VolCmd{Kind: api.Create, Vol: id, Blocks: 3, Size: 1, Per: 2, Place: []int{1, 2}, Total: total}
}

func put(data string) api.VolCmd {
	return api.VolCmd{Kind: api.Put, Vol: 3, Items: []api.Item{item(1, data)}}
}

func imported(data string) api.VolCmd {
	return api.VolCmd{Kind: api.Import, Vol: 3, Items: []api.Item{item(1, data)}}
}

func stat() api.VolCmd {
	return api.VolCmd{Kind: api.Stat, Vol: 3}
}

// some: volume 3 with a write of each letter.
func some(letters string) api.Volume {
	v, _ := volume.New(create(3, 0))
	for _, c := range letters {
		v, _ = volume.Do(v, put(string(c)))
	}
	return v
}

// tale: c, asked at from, answered at to with a Len.
func tale(c api.VolCmd, from, to int, n int64) model.Tale {
	return model.Tale{Cmd: c, From: from, To: to, Reply: api.Reply{Len: n}}
}

func never(c api.VolCmd, from int) model.Tale {
	return model.Tale{Cmd: c, From: from, To: -1}
}

func failed(c api.VolCmd, from, to int, e api.Errno) model.Tale {
	return model.Tale{Cmd: c, From: from, To: to, Reply: api.Reply{Code: e}}
}

// P26.2
func TestOrdered(t *testing.T) {
	other := put("z")
	other.Vol = 4
	for i, x := range []struct {
		letters string
		l       []model.Tale
		want    bool
	}{
		{"", nil, true},
		{"a", nil, false},
		{"ab", []model.Tale{tale(put("a"), 0, 3, 1), tale(put("b"), 1, 4, 2)}, true},
		{"ba", []model.Tale{tale(put("a"), 0, 3, 2), tale(put("b"), 1, 4, 1)}, true},
		{"ab", []model.Tale{tale(put("a"), 0, 3, 2), tale(put("b"), 1, 4, 1)}, false}, // others' Items
		{"ab", []model.Tale{tale(put("a"), 0, 3, 1)}, false},                          // a write of nobody
		{"ab", []model.Tale{tale(put("a"), 0, 3, 1), never(put("b"), 9)}, true},
		{"ab", []model.Tale{tale(put("a"), 0, 3, 1), failed(put("b"), 1, 2, api.ErrLeader)}, true},
		{"ab", []model.Tale{tale(put("a"), 0, 3, 1), failed(put("c"), 1, 2, api.ErrLeader)}, false}, // others' Items
		{"ab", []model.Tale{tale(put("a"), 0, 3, 1), failed(other, 1, 2, api.ErrLeader)}, false},
		{"ab", []model.Tale{tale(put("a"), 0, 3, 1), failed(imported("b"), 1, 2, api.ErrNone)}, true},
		{"ab", []model.Tale{tale(put("a"), 0, 3, 1), failed(stat(), 1, 2, api.ErrNone)}, false},
		// Of an answer that tells an error, its Len and its time don't count.
		{"a", []model.Tale{failed(put("a"), 0, 1, api.ErrForm)}, true},
		{"ab", []model.Tale{failed(put("a"), 4, 5, api.ErrForm), tale(put("b"), 0, 1, 2)}, true},
		{"aa", []model.Tale{failed(put("a"), 4, 5, api.ErrForm), tale(put("a"), 0, 1, 2)}, true},
		{"a", []model.Tale{tale(put("a"), 0, 3, 1), failed(put("b"), 1, 2, api.ErrForm), failed(put("a"), 1, 2, api.ErrForm)}, true},
		{"a", []model.Tale{never(put("a"), 0), never(put("q"), 1)}, true},
		{"a", []model.Tale{never(imported("a"), 0)}, true},
		{"a", []model.Tale{never(stat(), 0)}, false},
		{"a", []model.Tale{never(api.VolCmd{Kind: api.Pin, Vol: 3, Items: []api.Item{item(1, "a")}}, 0)}, false},
		{"aa", []model.Tale{tale(put("a"), 0, 3, 1), tale(put("a"), 0, 3, 1)}, false}, // one Len twice
		{"aa", []model.Tale{tale(put("a"), 0, 3, 1), tale(put("a"), 0, 3, 2)}, true},
		{"a", []model.Tale{tale(put("a"), 0, 3, 0)}, false},
		{"a", []model.Tale{tale(put("a"), 0, 3, 2)}, false},
		{"a", []model.Tale{tale(put("a"), 0, 3, -1)}, false},
		{"a", []model.Tale{tale(put("a"), 0, 3, math.MaxInt64)}, false},
		{"a", []model.Tale{tale(put("a"), 0, 3, math.MinInt64)}, false},
		{"a", []model.Tale{tale(imported("a"), 0, 3, 1), tale(imported("a"), 0, 3, 1)}, true},
		{"ab", []model.Tale{tale(imported("a"), 0, 3, 2), tale(imported("b"), 0, 3, 2)}, true},
		{"a", []model.Tale{tale(imported("a"), 0, 3, 0)}, false},
		{"a", []model.Tale{tale(imported("a"), 0, 3, 2)}, false},
		{"", []model.Tale{tale(imported("a"), 0, 3, 1)}, false},
		{"a", []model.Tale{tale(put("a"), 0, 3, 1), tale(other, 0, 9, 7)}, true},
		{"z", []model.Tale{never(other, 0)}, false},
		// Whoever asks behind an answer sees what it told.
		{"ab", []model.Tale{tale(put("b"), 0, 3, 2), tale(put("a"), 4, 5, 1)}, false},
		{"ab", []model.Tale{tale(put("b"), 0, 3, 2), tale(put("a"), 3, 5, 1)}, true},
		{"ab", []model.Tale{tale(put("a"), 4, 5, 1), tale(put("b"), 0, 3, 2)}, false},
		{"ab", []model.Tale{tale(put("a"), 0, 1, 1), tale(put("b"), 0, 3, 2), tale(stat(), 4, 5, 1)}, false},
		{"ab", []model.Tale{tale(put("a"), 0, 1, 1), tale(put("b"), 0, 3, 2), tale(stat(), 4, 5, 2)}, true},
		{"ab", []model.Tale{tale(put("a"), 0, 1, 1), tale(put("b"), 0, 3, 2), tale(stat(), 2, 5, 0)}, false},
		{"ab", []model.Tale{tale(put("a"), 0, 1, 1), tale(put("b"), 2, 3, 2), tale(stat(), 1, 5, 0)}, true},
		{"ab", []model.Tale{tale(stat(), 0, 1, 1), tale(put("a"), 2, 3, 1), never(put("b"), 0)}, false},
		{"ab", []model.Tale{tale(stat(), 0, 1, 0), tale(put("a"), 2, 3, 1), never(put("b"), 0)}, true},
		{"ab", []model.Tale{tale(stat(), 0, 1, 2), tale(stat(), 2, 3, 1), never(put("a"), 0), never(put("b"), 0)}, false},
		{"ab", []model.Tale{tale(imported("a"), 0, 1, 2), tale(imported("b"), 2, 3, 1)}, false},
		{"ab", []model.Tale{tale(imported("a"), 0, 1, 1), tale(put("b"), 2, 3, 2)}, true},
		{"ab", []model.Tale{tale(imported("a"), 0, 1, 2), tale(put("b"), 2, 3, 2)}, false},
		{"ab", []model.Tale{tale(put("a"), 0, 1, 1), failed(put("b"), 2, 3, api.ErrForm), tale(put("b"), 2, 4, 2)}, true},
		{"ab", []model.Tale{tale(put("b"), 0, 1, 2), failed(stat(), 2, 3, api.ErrNone), never(put("a"), 2)}, true},
		{"ab", []model.Tale{tale(put("b"), 0, 1, 2), tale(api.VolCmd{Kind: api.Prune, Vol: 3}, 2, 3, 0), never(put("a"), 2)}, true},
		{"ab", []model.Tale{tale(put("a"), 7, 3, 9), tale(put("b"), 0, 3, 2)}, true}, // answered ahead of being asked: not answered
		{"ab", []model.Tale{tale(put("a"), 3, 3, 1), tale(put("b"), 4, 4, 2)}, true},
	} {
		if model.Ordered(x.l, some(x.letters)) != x.want {
			t.Errorf("Ordered %d", i)
		}
	}
	many := put("a")
	many.Items = append(many.Items, item(0, "b"))
	if model.Ordered([]model.Tale{tale(many, 0, 1, 1)}, some("a")) || model.Ordered([]model.Tale{never(many, 0)}, some("a")) {
		t.Error("a write of some of the Items")
	}
}

// P26.1
func TestReplay(t *testing.T) {
	l := []api.VolCmd{
		put("x"), create(3, 0), {Kind: api.Put, Vol: 9}, put("a"), create(3, 0), {}, create(1, 2), put("b"), {Kind: api.Prune, Vol: 3, At: 1}, {Kind: api.Prune, Vol: 3, At: 7}, {Kind: api.Import, Vol: 1, Items: []api.Item{item(0, "i")}},
	}
	one, _ := volume.New(create(1, 2))
	one, _ = volume.Do(one, l[10])
	three, _ := volume.Do(some("ab"), l[8])
	if got := model.Replay(l); !slices.EqualFunc(got, []api.Volume{one, three}, model.Same) {
		t.Errorf("Replay: %v", got)
	}
	if len(model.Replay(nil)) != 0 {
		t.Error("Replay of nothing")
	}
}

// P26.1
func TestSameAndPrefix(t *testing.T) {
	full := func() api.Volume {
		v := some("ab")
		v.Pins = []int64{1, 1}
		return v
	}
	if !model.Same(full(), full()) || !model.Prefix(full(), full()) || !model.Same(api.Volume{Pins: []int64{}, Place: []int{}, Writes: []api.Write{}}, api.Volume{}) {
		t.Error("alike ones aren't")
	}
	for i, change := range []func(v *api.Volume){
		func(v *api.Volume) { v.Next = 1 }, func(v *api.Volume) { v.Hidden = true }, func(v *api.Volume) { v.Floor = 1 }, func(v *api.Volume) { v.Pins = []int64{1} }, func(v *api.Volume) { v.Pins[0] = 0 },
	} {
		v := full()
		change(&v)
		if model.Same(v, full()) || model.Same(full(), v) || !model.Prefix(v, full()) || !model.Prefix(full(), v) {
			t.Errorf("%d: Same, or no Prefix", i)
		}
	}
	for i, change := range []func(v *api.Volume){
		func(v *api.Volume) { v.Id = 1 }, func(v *api.Volume) { v.Blocks = 4 }, func(v *api.Volume) { v.Size = 2 }, func(v *api.Volume) { v.Per = 3 }, func(v *api.Volume) { v.Place[0] = 2 }, func(v *api.Volume) { v.Place = v.Place[:1] }, func(v *api.Volume) { v.Total = 1 },
		func(v *api.Volume) { v.Writes[0].Seq = 2 }, func(v *api.Volume) { v.Writes[1].Items[0].Data[0] = '!' }, func(v *api.Volume) { v.Writes[1].Items[0].Block = 2 }, func(v *api.Volume) { v.Writes[1].Items = nil },
	} {
		v := full()
		change(&v)
		if model.Same(v, full()) || model.Prefix(v, full()) || model.Prefix(full(), v) {
			t.Errorf("%d: Same, or Prefix", i)
		}
	}
	if !model.Prefix(some(""), some("ab")) || !model.Prefix(some("a"), some("ab")) || model.Prefix(some("ab"), some("a")) || model.Prefix(some("b"), some("ab")) || model.Same(some("a"), some("ab")) {
		t.Error("Prefix")
	}
}
