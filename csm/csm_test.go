package csm_test

import (
	"bytes"
	"slices"
	"testing"

	"memento/api"
	"memento/chunk"
	"memento/csm"
	"memento/pack"
)

// push: data at seq for block 0 of a chunk of two blocks of one byte.
func push(vol, number int, from, seq int64, data string) api.PushCmd {
	p := api.PushCmd{Vol: vol, Chunk: number, Count: 2, Size: 1, From: from, To: seq}
	p.Writes = []api.Write{{Seq: seq, Items: []api.Item{{Block: 0, Data: []byte(data)}}}}
	return p
}

func put(t *testing.T, p api.PushCmd) []byte {
	t.Helper()
	b, e := chunk.PutPush(p)
	if e != api.OK {
		t.Fatal(e)
	}
	return b
}

// filled: a machine with four chunks, and these.
func filled(t *testing.T) (*csm.Machine, []api.Chunk) {
	t.Helper()
	m := csm.New()
	var want []api.Chunk
	for _, x := range [][2]int{{2, 255}, {0, 7}, {2, 3}, {0, 0}} {
		p := push(x[0], x[1], 0, 1, "a")
		got, ok := m.Apply(put(t, p))
		c := chunk.Apply(chunk.New(p), p)
		if !ok || !chunk.Same(got, c) {
			t.Errorf("Apply: %v, %v", got, ok)
		}
		got.Hist[0][0].Data[0] = 'x'
		want = append(want, c)
	}
	return m, []api.Chunk{want[3], want[1], want[2], want[0]}
}

func want(t *testing.T, m *csm.Machine, l []api.Chunk) {
	t.Helper()
	if got := m.All(); !slices.EqualFunc(got, l, chunk.Same) {
		t.Errorf("All: %v", got)
	}
	for _, c := range l {
		if got, ok := m.Chunk(c.Vol, c.Chunk); !ok || !chunk.Same(got, c) {
			t.Errorf("Chunk: %v, %v", got, ok)
		}
	}
}

// P15.1
func TestApply(t *testing.T) {
	m, l := filled(t)
	want(t, m, l)
	p := push(0, 7, 1, 2, "b")
	l[1] = chunk.Apply(l[1], p)
	if got, ok := m.Apply(put(t, p)); !ok || !chunk.Same(got, l[1]) {
		t.Errorf("Apply: %v, %v", got, ok)
	}
	want(t, m, l)
	if got, ok := m.Apply(put(t, push(0, 7, 5, 6, "c"))); !ok || !chunk.Same(got, l[1]) {
		t.Errorf("Apply of a push behind the mark: %v, %v", got, ok)
	}
	other := push(0, 7, 2, 3, "c")
	other.Count = 1
	if got, ok := m.Apply(put(t, other)); !ok || !chunk.Same(got, l[1]) {
		t.Errorf("Apply of a push of another Count: %v, %v", got, ok)
	}
	for _, b := range [][]byte{nil, []byte("junk"), append(put(t, p), 0)} {
		if got, ok := m.Apply(b); ok || !chunk.Same(got, api.Chunk{}) {
			t.Errorf("Apply of no push: %v", got)
		}
	}
	want(t, m, l)
	far := push(5, 5, 3, 4, "d")
	if got, ok := m.Apply(put(t, far)); !ok || !chunk.Same(got, chunk.New(far)) {
		t.Errorf("Apply of a push to no chunk, behind its mark: %v, %v", got, ok)
	}
	want(t, m, append(l, chunk.New(far)))
}

// P15.1
func TestChunk(t *testing.T) {
	m, l := filled(t)
	for _, x := range [][2]int{{1, 0}, {0, 1}, {-1, 0}, {2, 256}, {7, 0}} {
		if got, ok := m.Chunk(x[0], x[1]); ok || !chunk.Same(got, api.Chunk{}) {
			t.Errorf("Chunk %v: %v", x, got)
		}
	}
	c, _ := m.Chunk(0, 0)
	c.Hist[0][0].Data[0] = 'x'
	m.All()[1].Hist[0][0].Data[0] = 'x'
	want(t, m, l)
	if len(csm.New().All()) != 0 {
		t.Error("All of a new one")
	}
}

// P15.1, P15.2
func TestSnapAndLoad(t *testing.T) {
	m, l := filled(t)
	b := pack.Put(4)
	for _, c := range l {
		b = append(b, chunk.Put(c)...)
	}
	if got := m.Snap(); !bytes.Equal(got, b) {
		t.Errorf("Snap: %x", got)
	}
	if got := csm.New().Snap(); !bytes.Equal(got, []byte{0}) {
		t.Errorf("Snap of a new one: %x", got)
	}
	o := csm.New()
	o.Apply(put(t, push(7, 7, 0, 1, "z")))
	if !o.Load(b) {
		t.Error("no Load of a Snap")
	}
	want(t, o, l)
	p := push(0, 0, 1, 2, "n")
	o.Apply(put(t, p))
	want(t, m, l)
	l[0] = chunk.Apply(l[0], p)
	want(t, o, l)
	if !o.Load([]byte{0}) || len(o.All()) != 0 {
		t.Error("Load of nothing")
	}
}

// P15.1
func TestLoadOfNone(t *testing.T) {
	m, l := filled(t)
	two := func(a, b api.Chunk) []byte {
		return pack.Join(pack.Put(2), chunk.Put(a), chunk.Put(b))
	}
	wrong := l[1]
	wrong.Mark = 0
	snap := m.Snap()
	for i, b := range [][]byte{
		nil, {1}, {0, 0}, snap[:len(snap)-1], append(m.Snap(), 0), two(l[1], l[0]), two(l[2], l[1]), two(l[0], l[0]), two(l[0], wrong),
		append([]byte{0x80}, 0), pack.Put(2049), pack.Put(1 << 62),
	} {
		if m.Load(b) {
			t.Errorf("Load of none %d", i)
		}
		want(t, m, l)
	}
	if !m.Load(two(l[0], l[1])) {
		t.Error("no Load of two")
	}
	want(t, m, l[:2])
}
