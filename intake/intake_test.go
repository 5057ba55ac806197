package intake_test

import (
	"bytes"
	"math"
	"reflect"
	"testing"

	"memento/api"
	"memento/chain"
	"memento/intake"
	"memento/volume"
)

func item(block int, data string) api.Item {
	return api.Item{Block: block, Data: []byte(data)}
}

// some: a full stream of five blocks of a byte.
func some() api.Stream {
	return api.Stream{Blocks: 5, Size: 1, From: -1, To: 9, Items: []api.Item{item(0, "a"), item(1, "b"), item(2, "c"), item(3, "d"), item(4, "e")}}
}

func plan(t *testing.T, n int) []api.VolCmd {
	t.Helper()
	l, e := intake.Plan(some(), 3, 2, []int{1, 2, 1}, n)
	if e != api.OK {
		t.Fatalf("Plan: %d", e)
	}
	return l
}

func create(total int) api.VolCmd {
	return api.VolCmd{Kind: api.Create, Vol: 3, Blocks: 5, Size: 1, Per: 2, Place: []int{1, 2, 1}, Total: total}
}

func imported(i int, l ...api.Item) api.VolCmd {
	return api.VolCmd{Kind: api.Import, Vol: 3, Index: i, Items: l}
}

// P24.1
func TestPlan(t *testing.T) {
	x := some().Items
	publish := api.VolCmd{Kind: api.Publish, Vol: 3}
	for n, want := range map[int][]api.VolCmd{
		1: {create(5), imported(0, x[0]), imported(1, x[1]), imported(2, x[2]), imported(3, x[3]), imported(4, x[4]), publish},
		2: {create(3), imported(0, x[:2]...), imported(1, x[2:4]...), imported(2, x[4]), publish},
		3: {create(2), imported(0, x[:3]...), imported(1, x[3:]...), publish},
		5: {create(1), imported(0, x...), publish},
		8: {create(1), imported(0, x...), publish},
	} {
		if got := plan(t, n); !reflect.DeepEqual(got, want) {
			t.Errorf("Plan of %d: %v", n, got)
		}
	}
}

// P24.1
func TestPlanErrors(t *testing.T) {
	part := api.Stream{Blocks: 5, Size: 1, From: 3, To: 9, Items: some().Items}
	short := some()
	short.Items = short.Items[1:]
	place := []int{1, 2, 1}
	for i, x := range []struct {
		s           api.Stream
		vol, per, n int
		place       []int
		e           api.Errno
	}{
		{api.Stream{}, 3, 2, 2, place, api.ErrForm}, {short, 3, 2, 2, place, api.ErrForm}, {some(), 3, 2, 0, place, api.ErrForm}, {some(), 3, 2, 9, place, api.ErrForm}, {some(), 3, 2, math.MinInt, place, api.ErrForm}, {some(), 3, 2, math.MaxInt, place, api.ErrForm},
		{some(), -1, 2, 2, place, api.ErrForm}, {some(), 8, 2, 2, place, api.ErrForm}, {some(), 3, 0, 2, place, api.ErrForm}, {some(), 3, 6, 2, []int{1}, api.ErrForm}, {some(), 3, 2, 2, place[:2], api.ErrForm}, {some(), 3, 2, 2, []int{1, 0, 1}, api.ErrForm},
		{part, 8, 2, 2, place, api.ErrForm}, {part, 3, 2, 9, place, api.ErrForm}, {part, 3, 2, 2, place, api.ErrChain},
	} {
		if l, e := intake.Plan(x.s, x.vol, x.per, x.place, x.n); e != x.e || len(l) != 0 {
			t.Errorf("Plan %d: %v, %d", i, l, e)
		}
	}
}

// made: the volume behind the first n calls of l.
func made(t *testing.T, l []api.VolCmd, n int) api.Volume {
	t.Helper()
	v, e := volume.New(l[0])
	for _, c := range l[1:n] {
		var r api.Reply
		v, r = volume.Do(v, c)
		e = max(e, r.Code)
	}
	if e != api.OK {
		t.Fatalf("the plan: %d", e)
	}
	return v
}

// P24.2, P24.3
func TestRest(t *testing.T) {
	for _, n := range []int{1, 2, 3, 8} {
		l := plan(t, n)
		if got := intake.Rest(l, api.Volume{}, false); !reflect.DeepEqual(got, l) {
			t.Errorf("Rest of nothing there: %v", got)
		}
		if got := intake.Rest(l, made(t, l, len(l)), true); len(got) != 0 {
			t.Errorf("Rest of all: %v", got)
		}
		for k := 1; k < len(l); k++ {
			if got := intake.Rest(l, made(t, l, k), true); !reflect.DeepEqual(got, l[k:]) {
				t.Errorf("Rest behind %d of %d: %v", k, len(l), got)
			}
		}
	}
}

// P24.2
func TestDone(t *testing.T) {
	l := plan(t, 2)
	v := made(t, l, len(l))
	more, _ := volume.Do(v, api.VolCmd{Kind: api.Put, Items: []api.Item{item(0, "z")}})
	if !intake.Done(l, v) || !intake.Done(l, more) {
		t.Error("it is done")
	}
	for k := 1; k < len(l); k++ {
		if intake.Done(l, made(t, l, k)) {
			t.Errorf("done behind %d", k)
		}
	}
	for i, change := range []func(v *api.Volume){
		func(v *api.Volume) { v.Hidden = true }, func(v *api.Volume) { v.Id = 4 }, func(v *api.Volume) { v.Blocks = 6 }, func(v *api.Volume) { v.Size = 2 }, func(v *api.Volume) { v.Per = 3 }, func(v *api.Volume) { v.Total = 2 },
		func(v *api.Volume) { v.Place = []int{1, 2, 3} }, func(v *api.Volume) { v.Writes = v.Writes[:2] }, func(v *api.Volume) { v.Writes[0], v.Writes[1] = v.Writes[1], v.Writes[0] },
		func(v *api.Volume) { v.Writes[2].Items[0].Data[0] = '!' }, func(v *api.Volume) { v.Writes[2].Items = nil }, func(v *api.Volume) { *v = api.Volume{} },
	} {
		v := made(t, l, len(l))
		change(&v)
		if intake.Done(l, v) {
			t.Errorf("%d is done", i)
		}
	}
}

// P24.3, P40.4: cut off anywhere, called twice, it goes on: the blocks are the stream's at the Len that Publish tells.
func TestGoesOn(t *testing.T) {
	for _, n := range []int{1, 2, 4} {
		l := plan(t, n)
		for cut := 1; cut < len(l); cut++ {
			v := made(t, l, cut)
			var r api.Reply
			for range 2 {
				for _, c := range intake.Rest(l, v, true) {
					v, r = volume.Do(v, c)
					v, _ = volume.Do(v, c)
				}
			}
			state, e := volume.State(v, r.Len)
			if e != api.OK || r.Code != api.OK || !intake.Done(l, v) {
				t.Fatalf("cut at %d: %v, %d", cut, r, e)
			}
			for b, want := range chain.Blocks(some()) {
				if !bytes.Equal(state[b], want) {
					t.Errorf("cut at %d: block %d is %s", cut, b, state[b])
				}
			}
		}
	}
}

// Nothing is shared; plans that aren't Plan's: it ends, and doesn't panic.
func TestAllArguments(t *testing.T) {
	s, place := some(), []int{1, 2, 1}
	l, _ := intake.Plan(s, 3, 2, place, 2)
	l[0].Place[0], l[1].Items[0].Data[0] = 9, '!'
	if place[0] != 1 || s.Items[0].Data[0] != 'a' {
		t.Error("Plan shares")
	}
	l = plan(t, 2)
	for _, there := range []bool{false, true} {
		r := intake.Rest(l, made(t, l, 1), there)
		for _, c := range r {
			if len(c.Place) > 0 {
				c.Place[0] = 9
			}
			if len(c.Items) > 0 {
				c.Items[0].Data[0] = '!'
			}
		}
	}
	if !reflect.DeepEqual(l, plan(t, 2)) {
		t.Error("Rest shares")
	}
	for _, l := range [][]api.VolCmd{nil, {{}}, {{}, {}}, {{Total: math.MaxInt}, {}}, {{Total: math.MinInt}, {}}, {{Total: 1}}} {
		for _, next := range []int{math.MinInt, -1, 0, 1, 2, math.MaxInt} {
			for _, hidden := range []bool{false, true} {
				v := api.Volume{Next: next, Hidden: hidden}
				intake.Rest(l, v, true)
				intake.Rest(l, v, false)
				if len(l) > 0 {
					v.Total = l[0].Total
				}
				intake.Done(l, v)
			}
		}
	}
}
