package chunk_test

import (
	"bytes"
	"math"
	"slices"
	"testing"

	"memento/api"
	"memento/chunk"
	"memento/pack"
)

const top = api.MaxTime

func item(block int, data string) api.Item {
	return api.Item{Block: block, Data: []byte(data)}
}

func write(seq int64, l ...api.Item) api.Write {
	return api.Write{Seq: seq, Items: l}
}

// push: to chunk 4 of volume 3, of three blocks of two bytes.
func push(from, to, floor int64, l ...api.Write) api.PushCmd {
	return api.PushCmd{Vol: 3, Chunk: 4, Count: 3, Size: 2, From: from, To: to, Floor: floor, Writes: l}
}

func version(seq int64, data string) api.Version {
	return api.Version{Seq: seq, Data: []byte(data)}
}

// some: a chunk with something in it.
func some() api.Chunk {
	return api.Chunk{Vol: 3, Chunk: 4, Count: 3, Size: 2, Mark: 9, Floor: 4, Hist: [][]api.Version{
		{version(2, "aa"), version(5, "ab"), version(9, "ac")}, nil, {version(4, "ca")},
	}}
}

func rightPushes() []api.PushCmd {
	many := make([]api.Item, 8)
	for i := range many {
		many[i] = api.Item{Block: 255 - i, Data: make([]byte, 32)}
	}
	return []api.PushCmd{
		push(0, 0, 0), push(top, top, top), push(5, 9, 9),
		push(5, 9, 2, write(6, item(0, "aa")), write(7, item(2, "ab"), item(0, "ac"), item(1, "ad")), write(8, item(1, "ae")), write(9, item(1, "af"))),
		{Vol: 7, Chunk: 255, Count: 256, Size: 32, From: 0, To: top, Floor: 300, Writes: []api.Write{write(top, many...)}},
		{Count: 1, Size: 1},
	}
}

func wrongPushes() []api.PushCmd {
	l := []api.PushCmd{
		{}, push(-1, 0, 0), push(1, 0, 0), push(0, top+1, 0), push(0, 3, -1), push(0, 3, 4), push(math.MinInt64, math.MaxInt64, 0),
		push(0, 9, 0, write(1, item(0, "aa")), write(2, item(0, "aa")), write(3, item(0, "aa")), write(4, item(0, "aa")), write(5, item(0, "aa"))),
		push(3, 9, 0, write(3, item(0, "aa"))), push(3, 9, 0, write(10, item(0, "aa"))), push(3, 9, 0, write(5, item(0, "aa")), write(5, item(0, "aa"))), push(3, 9, 0, write(5, item(0, "aa")), write(4, item(0, "aa"))),
		push(0, 9, 0, write(1)), push(0, 9, 0, write(1, item(0, "a"))), push(0, 9, 0, write(1, item(0, "aaa"))), push(0, 9, 0, write(1, item(-1, "aa"))), push(0, 9, 0, write(1, item(3, "aa"))),
		push(0, 9, 0, write(1, item(0, "aa"), item(1, "aa"), item(0, "aa"))),
	}
	for _, x := range [][4]int{{-1, 4, 3, 2}, {8, 4, 3, 2}, {3, -1, 3, 2}, {3, 256, 3, 2}, {3, 4, 0, 2}, {3, 4, -1, 2}, {3, 4, 257, 2}, {3, 4, 3, 0}, {3, 4, 3, -1}, {3, 4, 3, 33}, {3, 4, math.MaxInt, 2}, {3, 4, math.MinInt, 2}} {
		l = append(l, api.PushCmd{Vol: x[0], Chunk: x[1], Count: x[2], Size: x[3]})
	}
	many := make([]api.Item, 9)
	for i := range many {
		many[i] = api.Item{Block: i, Data: []byte("a")}
	}
	return append(l, api.PushCmd{Count: 9, Size: 1, To: 1, Writes: []api.Write{write(1, many...)}})
}

// P14.1
func TestPushRight(t *testing.T) {
	for i, p := range rightPushes() {
		if !chunk.PushRight(p) {
			t.Errorf("push %d isn't right", i)
		}
	}
	for i, p := range wrongPushes() {
		if b, e := chunk.PutPush(p); chunk.PushRight(p) || e != api.ErrForm || len(b) != 0 {
			t.Errorf("wrong push %d: %d", i, e)
		}
	}
}

// wrongs: chunks that may not be.
func wrongs() []api.Chunk {
	var l []api.Chunk
	for _, change := range []func(c *api.Chunk){
		func(c *api.Chunk) { c.Vol = -1 },
		func(c *api.Chunk) { c.Vol = 8 },
		func(c *api.Chunk) { c.Chunk = -1 },
		func(c *api.Chunk) { c.Chunk = 256 },
		func(c *api.Chunk) { c.Count = 2 },
		func(c *api.Chunk) { c.Count = 4 },
		func(c *api.Chunk) { c.Count, c.Hist = 0, nil },
		func(c *api.Chunk) { c.Count, c.Hist = 257, make([][]api.Version, 257) },
		func(c *api.Chunk) { c.Count = math.MinInt },
		func(c *api.Chunk) { c.Size = 1 },
		func(c *api.Chunk) { c.Size = 0 },
		func(c *api.Chunk) { c.Size, c.Hist = 33, make([][]api.Version, 3) },
		func(c *api.Chunk) { c.Mark = 8 },
		func(c *api.Chunk) { c.Mark = top + 1 },
		func(c *api.Chunk) { c.Floor = -1 },
		func(c *api.Chunk) { c.Floor, c.Hist = 10, make([][]api.Version, 3) },
		func(c *api.Chunk) { c.Floor = 5 },
		func(c *api.Chunk) { c.Hist = c.Hist[:2] },
		func(c *api.Chunk) { c.Hist[1] = []api.Version{version(6, "b")} },
		func(c *api.Chunk) { c.Hist[1] = []api.Version{version(6, "bb"), version(6, "bb")} },
		func(c *api.Chunk) { c.Hist[1] = []api.Version{version(0, "bb")} },
		func(c *api.Chunk) { c.Hist[1] = []api.Version{version(10, "bb")} },
	} {
		c := some()
		change(&c)
		l = append(l, c)
	}
	return append(l, api.Chunk{})
}

// P14.1
func TestRight(t *testing.T) {
	if !chunk.Right(some()) || !chunk.Right(api.Chunk{Vol: 7, Chunk: 255, Count: 256, Size: 32, Mark: top, Floor: top, Hist: make([][]api.Version, 256)}) {
		t.Error("a chunk isn't right")
	}
	for i, c := range wrongs() {
		if chunk.Right(c) {
			t.Errorf("chunk %d is right", i)
		}
	}
}

// P14.2
func TestNew(t *testing.T) {
	for i, p := range rightPushes() {
		c := chunk.New(p)
		want := api.Chunk{Vol: p.Vol, Chunk: p.Chunk, Count: p.Count, Size: p.Size, Hist: make([][]api.Version, p.Count)}
		if !chunk.Same(c, want) || !chunk.Right(c) {
			t.Errorf("New %d: %v", i, c)
		}
	}
	for _, p := range wrongPushes() {
		chunk.New(p)
	}
}

// P14.2
func TestApply(t *testing.T) {
	c := some()
	change := func(mark, floor int64, l ...[]api.Version) api.Chunk {
		return api.Chunk{Vol: 3, Chunk: 4, Count: 3, Size: 2, Mark: mark, Floor: floor, Hist: l}
	}
	a, b := []api.Version{version(2, "aa"), version(5, "ab"), version(9, "ac")}, []api.Version{version(4, "ca")}
	other := func(change func(p *api.PushCmd)) api.PushCmd {
		p := push(9, 12, 0, write(10, item(0, "zz")))
		change(&p)
		return p
	}
	for i, x := range []struct {
		p    api.PushCmd
		want api.Chunk
	}{
		{push(9, 12, 0, write(10, item(0, "ad"), item(1, "bd"))), change(12, 4, append(a[:3:3], version(10, "ad")), []api.Version{version(10, "bd")}, b)},
		{push(9, 9, 0), c},
		{push(9, 11, 3), change(11, 4, a, nil, b)},
		{push(9, 11, 5), change(11, 5, a[1:], nil, b)},
		{push(9, 11, 11), change(11, 11, a[2:], nil, b)},
		{push(7, 9, 8), change(9, 8, a[1:], nil, b)},
		{push(7, 8, 8), change(9, 8, a[1:], nil, b)},
		{push(0, 12, 0, write(3, item(0, "zz")), write(9, item(1, "zz")), write(11, item(1, "be"))), change(12, 4, a, []api.Version{version(11, "be")}, b)},
		{push(10, 12, 0, write(11, item(1, "zz"))), c},
		{push(9, 12, 0, write(13, item(0, "zz"))), c},
		{other(func(p *api.PushCmd) { p.Vol = 2 }), c},
		{other(func(p *api.PushCmd) { p.Chunk = 2 }), c},
		{other(func(p *api.PushCmd) { p.Count = 2 }), c},
		{other(func(p *api.PushCmd) { p.Size, p.Writes = 1, nil }), c},
	} {
		if !chunk.Right(x.want) {
			t.Fatalf("Apply %d: what is asked isn't right", i)
		}
		got := chunk.Apply(c, x.p)
		if !chunk.Same(got, x.want) {
			t.Errorf("Apply %d: %v", i, got)
		}
		for _, l := range got.Hist {
			for _, v := range l {
				v.Data[0] = 'x'
			}
		}
		if !chunk.Same(c, some()) || len(x.p.Writes) > 0 && x.p.Writes[0].Items[0].Data[0] == 'x' {
			t.Fatalf("Apply %d shares", i)
		}
	}
}

// P14.2
func TestRead(t *testing.T) {
	c := some()
	for i, x := range []struct {
		block int
		at    int64
		want  string
		e     api.Errno
	}{
		{0, 4, "aa", api.OK}, {0, 5, "ab", api.OK}, {0, 8, "ab", api.OK}, {0, 9, "ac", api.OK}, {1, 9, "\x00\x00", api.OK}, {2, 4, "ca", api.OK},
		{-1, 3, "", api.ErrNone}, {3, 10, "", api.ErrNone}, {math.MaxInt, 5, "", api.ErrNone}, {math.MinInt, 5, "", api.ErrNone},
		{0, 3, "", api.ErrPruned}, {0, math.MinInt64, "", api.ErrPruned}, {0, 10, "", api.ErrBehind}, {0, math.MaxInt64, "", api.ErrBehind},
	} {
		if got, e := chunk.Read(c, x.block, x.at); string(got) != x.want || e != x.e {
			t.Errorf("Read %d: %q, %d", i, got, e)
		}
	}
	b, _ := chunk.Read(c, 0, 9)
	if b[0] = 'x'; !chunk.Same(c, some()) {
		t.Error("Read shares")
	}
}

// P14.2
func TestChanged(t *testing.T) {
	for _, x := range []struct {
		from, to int64
		want     []int
	}{{4, 9, []int{0}}, {3, 9, []int{0, 2}}, {3, 4, []int{2}}, {5, 8, nil}, {9, 99, nil}, {9, 3, nil}} {
		if got := chunk.Changed(some(), x.from, x.to); !slices.Equal(got, x.want) {
			t.Errorf("Changed %d, %d: %v", x.from, x.to, got)
		}
	}
}

func num(l ...int64) []byte {
	var b []byte
	for _, n := range l {
		b = append(b, pack.Put(uint64(n))...)
	}
	return b
}

// P14.3
func TestPutPushAndReadPush(t *testing.T) {
	for i, p := range rightPushes() {
		want := num(int64(p.Vol), int64(p.Chunk), int64(p.Count), int64(p.Size), p.From, p.To, p.Floor, int64(len(p.Writes)))
		for _, w := range p.Writes {
			want = append(want, num(w.Seq, int64(len(w.Items)))...)
			for _, x := range w.Items {
				want = append(want, pack.Join(num(int64(x.Block)), pack.Lump(x.Data))...)
			}
		}
		if got, e := chunk.PutPush(p); e != api.OK || !bytes.Equal(got, want) {
			t.Errorf("PutPush %d: %x, %d", i, got, e)
		}
		got, e := chunk.ReadPush(want)
		if back, _ := chunk.PutPush(got); e != api.OK || !bytes.Equal(back, want) {
			t.Errorf("ReadPush %d: %v, %d", i, got, e)
		}
	}
	right := "\x03\x04\x03\x02\x05\x09\x02\x01\x06\x01\x00\x02aa"
	if _, e := chunk.ReadPush([]byte(right)); e != api.OK {
		t.Errorf("ReadPush: %d", e)
	}
	for i, s := range []string{
		"", right[:1], right[:7], right[:len(right)-1], right + "\x00", "\x83\x00" + right[1:], "\x08" + right[1:], "\x03\x80\x02" + right[2:], "\x03\x04\x00" + right[3:], "\x03\x04\x03\x21" + right[4:],
		"\x03\x04\x03\x02\x0a\x09\x02\x00", "\x03\x04\x03\x02\x05\x09\x0a\x00", "\x03\x04\x03\x02\x05\x09\x02\x05", "\x03\x04\x03\x02\x05\x09\x02\x01\x05\x01\x00\x02aa",
		"\x03\x04\x03\x02\x05\x09\x02\x01\x06\x00", "\x03\x04\x03\x02\x05\x09\x02\x01\x06\x09\x00\x02aa", "\x03\x04\x03\x02\x05\x09\x02\x01\x06\x01\x03\x02aa", "\x03\x04\x03\x02\x05\x09\x02\x01\x06\x01\x00\x01a",
	} {
		if p, e := chunk.ReadPush([]byte(s)); e != api.ErrBytes || p.Count != 0 || len(p.Writes) != 0 {
			t.Errorf("ReadPush of wrong %d: %v, %d", i, p, e)
		}
	}
}

// P14.3
func TestPutAndTake(t *testing.T) {
	want := "\x03\x04\x03\x02\x09\x04" + "\x03\x02\x02aa\x05\x02ab\x09\x02ac" + "\x00" + "\x01\x04\x02ca"
	if got := chunk.Put(some()); string(got) != want {
		t.Errorf("Put: %x", got)
	}
	r := pack.New([]byte(want + want + "end"))
	for range 2 {
		if got, ok := chunk.Take(r); !ok || !chunk.Same(got, some()) {
			t.Errorf("Take: %v, %v", got, ok)
		}
	}
	if r.Left() != 3 {
		t.Errorf("%d left", r.Left())
	}
	if _, ok := chunk.Take(r); ok {
		t.Error("Take of the end")
	}
	for i := range want {
		if got, ok := chunk.Take(pack.New([]byte(want[:i]))); ok || !chunk.Same(got, api.Chunk{}) {
			t.Errorf("Take of %d bytes", i)
		}
	}
	for i, c := range wrongs() {
		if c.Vol < 0 || c.Chunk < 0 || c.Count != len(c.Hist) || c.Floor < 0 || c.Size < 0 {
			continue
		}
		if got, ok := chunk.Take(pack.New(chunk.Put(c))); ok || !chunk.Same(got, api.Chunk{}) {
			t.Errorf("Take of wrong %d", i)
		}
	}
	if _, ok := chunk.Take(pack.New([]byte("\x00\x00\x01\x01\x00\x00\x80\x80\x80\x80\x80\x20"))); ok {
		t.Error("Take of so many versions")
	}
	if got, ok := chunk.Take(nil); ok || !chunk.Same(got, api.Chunk{}) {
		t.Error("Take of nil")
	}
}

// P14.3
func TestSame(t *testing.T) {
	if !chunk.Same(some(), some()) || !chunk.Same(api.Chunk{Hist: [][]api.Version{}}, api.Chunk{}) || !chunk.Same(api.Chunk{Hist: [][]api.Version{nil}}, api.Chunk{Hist: [][]api.Version{{}}}) {
		t.Error("alike ones aren't")
	}
	l := append(wrongs(), some(), api.Chunk{Hist: make([][]api.Version, 1)})
	l[len(l)-2].Hist[0][0].Data[0] = 'z'
	for i, c := range l {
		if chunk.Same(c, some()) || chunk.Same(some(), c) {
			t.Errorf("%d is alike", i)
		}
	}
}

// P14.4: whatever pushes come, in whatever order, a chunk has at each time from its floor to its mark what was written.
func TestWhoeverHasTheMarkHasTheTime(t *testing.T) {
	var all []api.Write
	for s := int64(1); s <= 20; s++ {
		all = append(all, write(s, item(int(s*s)%3, string([]byte{byte(s), 'q'}))))
	}
	want := func(block int, at int64) string {
		d := "\x00\x00"
		for _, w := range all[:at] {
			if w.Items[0].Block == block {
				d = string(w.Items[0].Data)
			}
		}
		return d
	}
	c := chunk.New(push(0, 0, 0))
	for n := range int64(1000) {
		from := n * 7 % 20
		to := min(from+(n*3+n/20)%5, 20)
		floor := min(n/60, to)
		c = chunk.Apply(c, push(from, to, floor, all[from:to]...))
		if !chunk.Right(c) {
			t.Fatalf("push %d: %v", n, c)
		}
		for at := c.Floor; at <= c.Mark; at++ {
			for block := range 3 {
				if got, e := chunk.Read(c, block, at); e != api.OK || string(got) != want(block, at) {
					t.Fatalf("push %d: block %d at %d: %q, %d", n, block, at, got, e)
				}
			}
		}
	}
	if c.Mark != 20 || c.Floor < 10 {
		t.Errorf("mark %d, floor %d", c.Mark, c.Floor)
	}
}

// Chunks that aren't right: it ends, and doesn't panic.
func TestAllArguments(t *testing.T) {
	for _, c := range append(wrongs(), api.Chunk{Count: 5, Size: math.MaxInt, Mark: 5}, api.Chunk{Count: 1, Size: math.MinInt, Mark: 5, Hist: make([][]api.Version, 1)}) {
		for _, p := range append(rightPushes(), wrongPushes()...) {
			chunk.Apply(c, p)
			p.Vol, p.Chunk, p.Count, p.Size = c.Vol, c.Chunk, c.Count, c.Size
			chunk.Apply(c, p)
		}
		for b := -1; b < 6; b++ {
			chunk.Read(c, b, 5)
		}
		chunk.Changed(c, 0, 9)
		chunk.Put(c)
	}
}
