package parts_test

import (
	"reflect"
	"testing"

	"memento/api"
	"memento/parts"
)

func item(block int, data string) api.Item {
	return api.Item{Block: block, Data: []byte(data)}
}

// A copy is alike, and shares nothing, down to the bytes.
func TestCopies(t *testing.T) {
	data := func() []byte { return []byte("ab") }
	entry := func() api.Entry { return api.Entry{Index: 1, Term: 2, Kind: 1, Data: data()} }
	base := func() api.Base { return api.Base{Index: 3, Term: 1, Conf: []int{0, 1}, Data: data()} }
	image := func() api.Image { return api.Image{Hard: api.Hard{Term: 2}, Base: base(), Log: []api.Entry{entry()}} }
	chunk := func() api.Chunk {
		return api.Chunk{Vol: 1, Count: 2, Hist: [][]api.Version{{{Seq: 1, Data: data()}}, nil}}
	}
	vol := func() api.Volume {
		return api.Volume{Id: 2, Place: []int{1, 2}, Pins: []int64{3}, Writes: []api.Write{{Seq: 1, Items: []api.Item{item(0, "ab")}}}}
	}
	stream := func() api.Stream { return api.Stream{Blocks: 1, Items: []api.Item{item(0, "ab")}} }

	i := image()
	ic := parts.Image(i)
	i.Base.Conf[0], i.Base.Data[0], i.Log[0].Data[0] = 9, '!', '!'
	c := chunk()
	cc := parts.Chunk(c)
	c.Hist[0][0].Data[0], c.Hist[1] = '!', c.Hist[0]
	v := vol()
	vc := parts.Volume(v)
	v.Place[0], v.Pins[0], v.Writes[0].Items[0].Data[0] = 9, 9, '!'
	s := stream()
	sc := parts.Stream(s)
	s.Items[0].Data[0] = '!'
	if !reflect.DeepEqual(ic, image()) || !reflect.DeepEqual(cc, chunk()) || !reflect.DeepEqual(vc, vol()) || !reflect.DeepEqual(sc, stream()) {
		t.Error("a copy shares, or isn't alike")
	}
}

func TestSame(t *testing.T) {
	l := []api.Item{item(0, "a"), item(1, "b")}
	if !parts.SameItems(l, []api.Item{item(0, "a"), item(1, "b")}) || !parts.SameItems(nil, []api.Item{}) {
		t.Error("alike ones aren't")
	}
	for i, o := range [][]api.Item{nil, l[:1], {item(0, "a"), item(1, "c")}, {item(0, "a"), item(2, "b")}, {l[1], l[0]}} {
		if parts.SameItems(l, o) || parts.SameWrites([]api.Write{{Seq: 1, Items: l}}, []api.Write{{Seq: 1, Items: o}}) {
			t.Errorf("%d is alike", i)
		}
	}
	if parts.SameWrites([]api.Write{{Seq: 1, Items: l}}, []api.Write{{Seq: 2, Items: l}}) || !parts.SameWrites([]api.Write{{Seq: 1, Items: l}}, []api.Write{{Seq: 1, Items: l}}) {
		t.Error("SameWrites")
	}
}

func TestNums(t *testing.T) {
	if got := parts.Nums(300, 1); string(got) != "\xac\x02\x01" || string(parts.Nums(int64(5))) != "\x05" {
		t.Errorf("Nums: %x", got)
	}
}
