package hist_test

import (
	"bytes"
	"math"
	"slices"
	"testing"

	"memento/api"
	"memento/hist"
)

// list: versions at these times, whose data are their times.
func list(times ...int64) []api.Version {
	var l []api.Version
	for _, s := range times {
		l = append(l, api.Version{Seq: s, Data: []byte{byte(s)}})
	}
	return l
}

func same(a, b []api.Version) bool {
	return slices.EqualFunc(a, b, func(x, y api.Version) bool { return x.Seq == y.Seq && bytes.Equal(x.Data, y.Data) })
}

// P13.1
func TestRight(t *testing.T) {
	for _, l := range [][]api.Version{nil, list(1), list(api.MaxTime), list(1, 2, 9)} {
		if !hist.Right(l) {
			t.Errorf("%v isn't right", l)
		}
	}
	for _, l := range [][]api.Version{list(0), list(-1), list(api.MaxTime + 1), list(2, 2), list(1, 3, 2), list(math.MinInt64, 1), list(1, math.MaxInt64)} {
		if hist.Right(l) {
			t.Errorf("%v is right", l)
		}
	}
}

// P13.1
func TestAdd(t *testing.T) {
	for _, x := range []struct {
		l    []api.Version
		seq  int64
		want []api.Version
	}{
		{nil, 1, list(1)}, {nil, 0, nil}, {nil, -5, nil}, {nil, api.MaxTime, list(api.MaxTime)}, {nil, api.MaxTime + 1, nil}, {nil, math.MaxInt64, nil},
		{list(3, 5), 6, list(3, 5, 6)}, {list(3, 5), 5, list(3, 5)}, {list(3, 5), 4, list(3, 5)}, {list(3, 5), 1, list(3, 5)},
	} {
		if got := hist.Add(x.l, x.seq, []byte{byte(x.seq)}); !same(got, x.want) {
			t.Errorf("Add %v, %d: %v", x.l, x.seq, got)
		}
	}
	l := append(make([]api.Version, 0, 9), list(3, 5)...)
	data := []byte{6}
	got := hist.Add(l, 6, data)
	data[0], got[0].Data[0] = 99, 99
	if l[0].Data[0] != 3 || l[:3][2].Seq != 0 || got[2].Data[0] != 6 {
		t.Error("Add shares")
	}
	got = hist.Add(l, 1, nil)
	if got[0].Data[0] = 99; l[0].Data[0] != 3 {
		t.Error("Add of nothing shares")
	}
}

// P13.1
func TestAt(t *testing.T) {
	l := list(3, 5, 9)
	for at, want := range map[int64]byte{math.MinInt64: 0, 0: 0, 2: 0, 3: 3, 4: 3, 5: 5, 8: 5, 9: 9, 10: 9, math.MaxInt64: 9} {
		if got, ok := hist.At(l, at); ok != (want > 0) || ok && !bytes.Equal(got, []byte{want}) || !ok && got != nil {
			t.Errorf("At %d: %v, %v", at, got, ok)
		}
	}
	if got, ok := hist.At(nil, 5); ok || got != nil {
		t.Error("At of nothing")
	}
	b, _ := hist.At(l, 9)
	if b[0] = 99; l[2].Data[0] != 9 {
		t.Error("At shares")
	}
	if got, ok := hist.At([]api.Version{{Seq: 1}}, 1); !ok || len(got) != 0 {
		t.Error("At of no data")
	}
}

// P13.1
func TestPrune(t *testing.T) {
	l := list(3, 5, 9)
	for floor, want := range map[int64][]api.Version{math.MinInt64: l, 2: l, 3: l, 4: l, 5: l[1:], 8: l[1:], 9: l[2:], 10: l[2:], math.MaxInt64: l[2:]} {
		got := hist.Prune(l, floor)
		if !same(got, want) {
			t.Errorf("Prune to %d: %v", floor, got)
		}
		if got[0].Data[0] = 99; !same(l, list(3, 5, 9)) {
			t.Error("Prune shares")
		}
	}
	if len(hist.Prune(nil, 5)) != 0 {
		t.Error("Prune of nothing")
	}
}

// P13.1
func TestChanged(t *testing.T) {
	l := list(3, 5, 9)
	for _, x := range []struct {
		from, to int64
		want     bool
	}{
		{2, 3, true}, {3, 4, false}, {3, 5, true}, {5, 8, false}, {5, 9, true}, {9, math.MaxInt64, false}, {math.MinInt64, 2, false}, {math.MinInt64, math.MaxInt64, true}, {4, 4, false}, {6, 2, false}, {9, 3, false},
	} {
		if hist.Changed(l, x.from, x.to) != x.want {
			t.Errorf("Changed from %d to %d", x.from, x.to)
		}
	}
	if hist.Changed(nil, 0, 9) {
		t.Error("Changed of nothing")
	}
}

// P13.2
func TestWhatWasIsStillThere(t *testing.T) {
	var l []api.Version
	for s := int64(2); s < 40; s += 3 {
		l = hist.Add(l, s, []byte{byte(s)})
	}
	for floor := int64(0); floor < 45; floor++ {
		p := hist.Prune(l, floor)
		if !hist.Right(p) || !same(hist.Prune(p, floor), p) {
			t.Errorf("Prune to %d: %v", floor, p)
		}
		for at := floor; at < 45; at++ {
			a, aok := hist.At(l, at)
			b, bok := hist.At(p, at)
			if aok != bok || !bytes.Equal(a, b) {
				t.Errorf("behind Prune to %d another one at %d: %v, %v", floor, at, a, b)
			}
			if hist.Changed(l, floor, at) != hist.Changed(p, floor, at) {
				t.Errorf("behind Prune to %d another change to %d", floor, at)
			}
		}
	}
}

// Lists that aren't right: it ends, and doesn't panic.
func TestAllArguments(t *testing.T) {
	for _, l := range [][]api.Version{list(5, 3, 9, 1), list(0, 0, 0), list(math.MaxInt64, math.MinInt64)} {
		for _, at := range []int64{math.MinInt64, 0, 4, math.MaxInt64} {
			hist.Add(l, at, nil)
			hist.At(l, at)
			hist.Prune(l, at)
			hist.Changed(l, at, -at)
		}
	}
}
