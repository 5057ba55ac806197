package rlog_test

import (
	"math"
	"slices"
	"testing"

	"memento/api"
	"memento/entry"
	"memento/rlog"
)

// run: entries from index on, of those terms.
func run(index int, terms ...int) []api.Entry {
	var l []api.Entry
	for i, term := range terms {
		l = append(l, api.Entry{Index: index + i, Term: term, Kind: api.Cmd, Data: []byte{byte(index + i), byte(term)}})
	}
	return l
}

func member(index, term int, n, add byte) api.Entry {
	return api.Entry{Index: index, Term: term, Kind: api.Conf, Data: []byte{n, add}}
}

func base() api.Base {
	return api.Base{Index: 10, Term: 3, Conf: []int{0, 1, 2}, Data: []byte("base")}
}

func same(a, b []api.Entry) bool {
	return slices.EqualFunc(a, b, entry.Same)
}

func all(g *rlog.Log) []api.Entry {
	return g.From(g.Base().Index+1, math.MaxInt)
}

func want(t *testing.T, g *rlog.Log, b api.Base, l []api.Entry) {
	t.Helper()
	last := b.Index
	if len(l) > 0 {
		last = l[len(l)-1].Index
	}
	if !entry.SameBase(g.Base(), b) || !same(all(g), l) || g.Last() != last {
		t.Errorf("base %v, log %v, last %d", g.Base(), all(g), g.Last())
	}
}

// P9.1
func TestNew(t *testing.T) {
	want(t, rlog.New(base(), nil), base(), nil)
	l := run(11, 3, 4, 4)
	want(t, rlog.New(base(), l), base(), l)
	want(t, rlog.New(base(), append(run(11, 3), run(13, 4)...)), base(), run(11, 3))
	want(t, rlog.New(base(), append(run(11, 3), run(11, 4)...)), base(), run(11, 3))
	want(t, rlog.New(base(), run(10, 3, 3)), base(), nil)
	want(t, rlog.New(base(), run(12, 3)), base(), nil)
}

// P9.1: nothing is shared.
func TestShares(t *testing.T) {
	b, l := base(), run(11, 3, 4)
	g := rlog.New(b, l)
	b.Conf[0], b.Data[0], l[0].Data[0], l[1].Term = 6, 'x', 'x', 9
	want(t, g, base(), run(11, 3, 4))
	b, l = g.Base(), all(g)
	b.Conf[0], b.Data[0], l[0].Data[0], l[1].Term = 6, 'x', 'x', 9
	g.Conf(10)[0] = 6
	want(t, g, base(), run(11, 3, 4))
	data := []byte("d")
	e := g.Add(5, api.Cmd, data)
	data[0], e.Data[0] = 'x', 'y'
	if got := g.From(13, 1); string(got[0].Data) != "d" {
		t.Errorf("Add shares: %s", got[0].Data)
	}
	more := run(14, 5)
	told, _, _ := g.Follow(13, 5, more)
	more[0].Data[0], told[0].Data[1] = 'x', 'x'
	if !same(g.From(14, 1), run(14, 5)) {
		t.Error("Follow shares")
	}
	data = []byte("c")
	g.Compact(12, data)
	data[0] = 'x'
	if string(g.Base().Data) != "c" {
		t.Error("Compact shares")
	}
	b = base()
	g.Reset(b)
	b.Conf[0] = 6
	want(t, g, base(), nil)
}

// P9.1
func TestTerm(t *testing.T) {
	g := rlog.New(base(), run(11, 3, 4))
	for i, term := range map[int]int{9: -1, 10: 3, 11: 3, 12: 4, 13: -1, 0: -1, -1: -1, math.MaxInt: -1, math.MinInt: -1} {
		if g.Term(i) != term {
			t.Errorf("Term(%d): %d", i, g.Term(i))
		}
	}
}

// P9.1
func TestFrom(t *testing.T) {
	l := run(11, 3, 4, 4, 5)
	g := rlog.New(base(), l)
	for _, x := range []struct {
		i, n int
		want []api.Entry
	}{
		{11, 9, l}, {11, 4, l}, {11, 2, l[:2]}, {12, 2, l[1:3]}, {14, 1, l[3:]}, {14, math.MaxInt, l[3:]}, {15, 1, nil}, {12, 0, nil}, {12, -1, nil},
		{12, math.MinInt, nil}, {math.MaxInt, 1, nil}, {10, 1, l[:1]}, {math.MinInt, 9, l},
	} {
		if got := g.From(x.i, x.n); !same(got, x.want) {
			t.Errorf("From(%d, %d): %v", x.i, x.n, got)
		}
	}
}

// P9.1
func TestConf(t *testing.T) {
	g := rlog.New(base(), []api.Entry{member(11, 3, 1, 0), run(12, 3)[0], member(13, 3, 5, 1), member(14, 3, 5, 1), member(15, 3, 6, 0), member(16, 3, 0, 0)})
	for i, l := range map[int][]int{
		math.MinInt: {0, 1, 2}, 9: {0, 1, 2}, 10: {0, 1, 2}, 11: {0, 2}, 12: {0, 2}, 13: {0, 2, 5}, 14: {0, 2, 5}, 15: {0, 2, 5}, 16: {2, 5}, math.MaxInt: {2, 5},
	} {
		if got := g.Conf(i); !slices.Equal(got, l) {
			t.Errorf("Conf(%d): %v", i, got)
		}
	}
}

// P9.2
func TestFollow(t *testing.T) {
	old := run(11, 3, 3, 4, 4)
	for i, x := range []struct {
		prev, term int
		l          []api.Entry
		told       []api.Entry
		last       int
		ok         bool
		log        []api.Entry
	}{
		{14, 5, run(15, 5), nil, 0, false, old},                                                    // another Term
		{15, 5, run(16, 5), nil, 0, false, old},                                                    // isn't there
		{10, 2, run(11, 5), nil, 0, false, old},                                                    // another Term than the base's
		{14, 4, run(15, 5, 5), run(15, 5, 5), 16, true, run(11, 3, 3, 4, 4, 5, 5)},                 // all new
		{14, 4, nil, nil, 14, true, old},                                                           // nothing
		{12, 3, nil, nil, 12, true, old},                                                           // nothing in the midst
		{10, 3, run(11, 3, 3), nil, 12, true, old},                                                 // all there: nothing is cut
		{11, 3, run(12, 3, 4, 4, 6), run(15, 6), 15, true, run(11, 3, 3, 4, 4, 6)},                 // some there
		{11, 3, run(12, 3, 5), run(13, 5), 13, true, run(11, 3, 3, 5)},                             // another one in the midst
		{12, 3, run(13, 5, 4), run(13, 5, 4), 14, true, run(11, 3, 3, 5, 4)},                       // all behind another one is new
		{7, 9, run(8, 9, 9, 9, 3, 3), nil, 12, true, old},                                          // ahead of the base
		{7, 9, run(8, 9, 9), nil, 10, true, old},                                                   // all ahead of the base
		{7, 9, nil, nil, 10, true, old},                                                            // nothing ahead of the base
		{0, 0, run(1, 1, 1, 1, 1, 1, 1, 1, 1, 1, 1, 7, 7), run(11, 7, 7), 12, true, run(11, 7, 7)}, // from the beginning on
	} {
		g := rlog.New(base(), old)
		told, last, ok := g.Follow(x.prev, x.term, x.l)
		if !same(told, x.told) || last != x.last || ok != x.ok || !same(all(g), x.log) {
			t.Errorf("Follow %d: %v, %d, %v: %v", i, told, last, ok, all(g))
		}
	}
	g := rlog.New(base(), old)
	g.Follow(math.MinInt, 0, run(1, 1))
	g.Follow(math.MaxInt, 0, run(1, 1))
	g.Follow(12, 3, run(14, 1))
}

// P9.2
func TestAdd(t *testing.T) {
	g := rlog.New(base(), nil)
	if e := g.Add(4, api.Cmd, []byte{11, 4}); !entry.Same(e, run(11, 4)[0]) {
		t.Errorf("Add: %v", e)
	}
	g.Add(5, api.Cmd, []byte{12, 5})
	want(t, g, base(), run(11, 4, 5))
	if e := g.Add(5, api.Noop, nil); e.Index != 13 || e.Kind != api.Noop || len(e.Data) != 0 {
		t.Errorf("Add: %v", e)
	}
}

// P9.2
func TestCompact(t *testing.T) {
	l := []api.Entry{run(11, 3)[0], member(12, 4, 1, 0), member(13, 4, 4, 1), run(14, 5)[0]}
	for _, i := range []int{10, 9, 0, -1, 15, math.MaxInt, math.MinInt} {
		g := rlog.New(base(), l)
		if g.Compact(i, []byte("new")) {
			t.Errorf("Compact(%d)", i)
		}
		want(t, g, base(), l)
	}
	for i, b := range []api.Base{
		{Index: 11, Term: 3, Conf: []int{0, 1, 2}, Data: []byte("new")},
		{Index: 12, Term: 4, Conf: []int{0, 2}, Data: []byte("new")},
		{Index: 13, Term: 4, Conf: []int{0, 2, 4}, Data: []byte("new")},
		{Index: 14, Term: 5, Conf: []int{0, 2, 4}, Data: []byte("new")},
	} {
		g := rlog.New(base(), l)
		if !g.Compact(11+i, []byte("new")) {
			t.Errorf("no Compact(%d)", 11+i)
		}
		want(t, g, b, l[i+1:])
		if !slices.Equal(g.Conf(99), []int{0, 2, 4}) {
			t.Errorf("Conf behind Compact(%d): %v", 11+i, g.Conf(99))
		}
	}
}

// P9.2
func TestReset(t *testing.T) {
	g := rlog.New(base(), run(11, 3, 4))
	b := api.Base{Index: 12, Term: 4, Conf: []int{6}, Data: []byte("other")}
	g.Reset(b)
	want(t, g, b, nil)
	if g.Term(11) != -1 || g.Term(12) != 4 {
		t.Error("Reset leaves entries")
	}
}

// P9.3
func TestWhoLeadsIsFollowed(t *testing.T) {
	lead := rlog.New(api.Base{Conf: []int{0}}, run(1, 1, 1, 2, 2, 4))
	for _, terms := range [][]int{nil, {1}, {1, 1, 1, 1, 1, 1, 1}, {1, 1, 2, 2, 4}, {1, 1, 2, 3, 3, 3}} {
		g := rlog.New(api.Base{Conf: []int{0}}, run(1, terms...))
		for prev := lead.Last(); ; prev-- {
			if _, last, ok := g.Follow(prev, lead.Term(prev), lead.From(prev+1, 9)); ok {
				if last != 5 || !same(all(g)[:5], all(lead)) {
					t.Errorf("%v follows as %v", terms, all(g))
				}
				break
			}
		}
	}
}
