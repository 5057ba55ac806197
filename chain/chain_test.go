package chain_test

import (
	"bytes"
	"math/rand"
	"slices"
	"testing"

	"memento/api"
	"memento/chain"
	"memento/stream"
)

func item(block int, data string) api.Item {
	return api.Item{Block: block, Data: []byte(data)}
}

// some: of three blocks of a byte.
func some(from, to int64, l ...api.Item) api.Stream {
	return api.Stream{Blocks: 3, Size: 1, From: from, To: to, Items: l}
}

func first() api.Stream {
	return some(-1, 4, item(0, "a"), item(1, "b"), item(2, "c"))
}

func second() api.Stream {
	return some(4, 6, item(1, "x"))
}

func third() api.Stream {
	return some(6, 6)
}

func fourth() api.Stream {
	return some(6, 9, item(0, "y"), item(1, "z"))
}

// P22.1
func TestFollows(t *testing.T) {
	wrong := second()
	wrong.Items = append(wrong.Items, item(1, "x"))
	bigger, longer := second(), second()
	bigger.Blocks = 4
	longer.Size, longer.Items = 2, nil
	for i, x := range []struct {
		a, b api.Stream
		want bool
	}{
		{first(), second(), true}, {second(), third(), true}, {third(), third(), true}, {second(), fourth(), true},
		{second(), first(), false}, {first(), first(), false}, {first(), third(), false}, {first(), wrong, false}, {wrong, third(), false}, {first(), bigger, false}, {first(), longer, false}, {api.Stream{}, api.Stream{}, false},
	} {
		if chain.Follows(x.a, x.b) != x.want {
			t.Errorf("Follows %d", i)
		}
	}
}

// chains: what is none, what is one.
var notRight = [][]api.Stream{nil, {second()}, {first(), first()}, {second(), third()}, {first(), third()}, {first(), second(), second()}, {first(), second(), third(), fourth(), third()}}

// P22.1
func TestRight(t *testing.T) {
	for i, l := range [][]api.Stream{{first()}, {first(), second()}, {first(), second(), third(), third(), fourth()}} {
		if !chain.Right(l...) {
			t.Errorf("%d isn't right", i)
		}
	}
	for i, l := range notRight {
		if chain.Right(l...) {
			t.Errorf("%d is right", i)
		}
	}
	if chain.Right(api.Stream{From: -1}) || chain.Right(first(), api.Stream{From: 4}) {
		t.Error("a stream that may not be is right")
	}
}

// P22.1
func TestMerge(t *testing.T) {
	for i, x := range []struct {
		a, b, want api.Stream
		e          api.Errno
	}{
		{first(), second(), some(-1, 6, item(0, "a"), item(1, "x"), item(2, "c")), api.OK},
		{second(), third(), some(4, 6, item(1, "x")), api.OK},
		{second(), fourth(), some(4, 9, item(0, "y"), item(1, "z")), api.OK},
		{some(1, 2, item(1, "p")), some(2, 3, item(0, "q"), item(2, "r")), some(1, 3, item(0, "q"), item(1, "p"), item(2, "r")), api.OK},
		{some(1, 2, item(0, "p"), item(2, "q")), some(2, 3, item(1, "r")), some(1, 3, item(0, "p"), item(1, "r"), item(2, "q")), api.OK},
		{first(), api.Stream{}, api.Stream{}, api.ErrForm}, {api.Stream{}, first(), api.Stream{}, api.ErrForm},
		{first(), first(), api.Stream{}, api.ErrChain}, {first(), fourth(), api.Stream{}, api.ErrChain},
	} {
		got, e := chain.Merge(x.a, x.b)
		if e != x.e || !stream.Same(got, x.want) || e == api.OK && !stream.Right(got) {
			t.Errorf("Merge %d: %v, %d", i, got, e)
		}
	}
}

// P22.1
func TestAll(t *testing.T) {
	for i, x := range []struct {
		l    []api.Stream
		want api.Stream
	}{
		{[]api.Stream{first()}, first()},
		{[]api.Stream{first(), second(), third(), fourth()}, some(-1, 9, item(0, "y"), item(1, "z"), item(2, "c"))},
	} {
		if got, e := chain.All(x.l...); e != api.OK || !stream.Same(got, x.want) {
			t.Errorf("All %d: %v, %d", i, got, e)
		}
	}
	for i, l := range notRight {
		if got, e := chain.All(l...); e != api.ErrChain || !stream.Same(got, api.Stream{}) {
			t.Errorf("All of none %d: %d", i, e)
		}
		if got, e := chain.All(append(slices.Clone(l), api.Stream{})...); e != api.ErrForm || !stream.Same(got, api.Stream{}) {
			t.Errorf("All of a wrong one %d: %d", i, e)
		}
	}
}

// P22.2
func TestBlocks(t *testing.T) {
	if got := chain.Blocks(first()); !slices.EqualFunc(got, [][]byte{[]byte("a"), []byte("b"), []byte("c")}, bytes.Equal) {
		t.Errorf("Blocks: %q", got)
	}
	for i, s := range []api.Stream{{}, second(), some(-1, 4, item(0, "a"), item(1, "b")), some(4, 6, item(0, "a"), item(1, "b"), item(2, "c"))} {
		if got := chain.Blocks(s); len(got) != 0 {
			t.Errorf("Blocks of %d: %q", i, got)
		}
	}
}

// P22.2, P40.5
func TestDecode(t *testing.T) {
	put := func(l ...api.Stream) [][]byte {
		var all [][]byte
		for _, s := range l {
			b, e := stream.Put(s)
			if e != api.OK {
				t.Fatal(e)
			}
			all = append(all, b)
		}
		return all
	}
	want := []api.Stream{first(), second(), third(), fourth()}
	if got, at, e := chain.Decode(put(want...)...); e != api.OK || at != 0 || !slices.EqualFunc(got, want, stream.Same) {
		t.Errorf("Decode: %v, %d, %d", got, at, e)
	}
	turned := put(second())[0]
	turned[2]++
	for i, x := range []struct {
		l  [][]byte
		at int
		e  api.Errno
	}{
		{nil, 0, api.ErrChain}, {put(second()), 0, api.ErrChain}, {put(second(), first()), 0, api.ErrChain}, {put(first(), first()), 1, api.ErrChain}, {put(first(), second(), second()), 2, api.ErrChain},
		{append(put(first(), second()), turned), 2, api.ErrSum}, {append(put(second(), second()), turned, nil), 2, api.ErrSum}, {append([][]byte{{1, 2}}, put(first())...), 0, api.ErrShort},
		{append(put(second()), make([]byte, 4)), 1, api.ErrBytes},
	} {
		if got, at, e := chain.Decode(x.l...); e != x.e || at != x.at || len(got) != 0 {
			t.Errorf("Decode of none %d: %d, %d", i, at, e)
		}
	}
}

// P22.3: merged in whatever parts, a chain is the same.
func TestMergedOrNot(t *testing.T) {
	rng := rand.New(rand.NewSource(1))
	for range 300 {
		l := []api.Stream{first()}
		for to := int64(4); len(l) < 8; {
			next := to + rng.Int63n(3)
			s := some(to, next)
			for b := range 3 {
				if rng.Intn(2) == 0 {
					s.Items = append(s.Items, item(b, string(rune('a'+rng.Intn(26)))))
				}
			}
			l, to = append(l, s), next
		}
		want, e := chain.All(l...)
		if e != api.OK || !stream.Right(want) {
			t.Fatalf("All: %d", e)
		}
		for len(l) > 1 {
			i := rng.Intn(len(l) - 1)
			s, e := chain.Merge(l[i], l[i+1])
			if e != api.OK {
				t.Fatalf("Merge: %d", e)
			}
			l = slices.Replace(l, i, i+2, s)
			if got, e := chain.All(l...); e != api.OK || !stream.Same(got, want) {
				t.Fatalf("All of merged ones: %v, not %v", got, want)
			}
		}
	}
}

// What is answered is new memory.
func TestShares(t *testing.T) {
	a, b := first(), second()
	m, _ := chain.Merge(a, b)
	one, _ := chain.All(a)
	l := chain.Blocks(a)
	for i := range 3 {
		m.Items[i].Data[0], one.Items[i].Data[0], l[i][0] = '!', '!', '!'
	}
	if !stream.Same(a, first()) || !stream.Same(b, second()) {
		t.Error("an answer shares")
	}
}
