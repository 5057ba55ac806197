package stream_test

import (
	"bytes"
	"math"
	"testing"

	"memento/api"
	"memento/crc"
	"memento/pack"
	"memento/stream"
)

const top = api.MaxTime

func item(block int, data string) api.Item {
	return api.Item{Block: block, Data: []byte(data)}
}

func all(blocks, size int) []api.Item {
	var l []api.Item
	for b := range blocks {
		l = append(l, api.Item{Block: b, Data: bytes.Repeat([]byte{byte(b)}, size)})
	}
	return l
}

func rights() []api.Stream {
	return []api.Stream{
		{Blocks: 1, Size: 1, From: -1, Items: []api.Item{item(0, "a")}},
		{Blocks: 3, Size: 2, From: -1, To: 300, Items: all(3, 2)},
		{Blocks: 256, Size: 32, From: -1, To: top, Items: all(256, 32)},
		{Blocks: 256, Size: 32, From: top, To: top},
		{Blocks: 256, Size: 3, From: 0, To: top, Items: []api.Item{item(0, "abc"), item(127, "def"), item(128, "ghi"), item(255, "jkl")}},
		{Blocks: 2, Size: 1, From: 4, To: 5, Items: all(2, 1)},
	}
}

func wrongs() []api.Stream {
	l := []api.Stream{{}, {Blocks: 2, Size: 1, From: -1, Items: all(1, 1)}, {Blocks: 2, Size: 1, From: -1}, {Blocks: 2, Size: 1, From: -1, Items: all(3, 1)}, {Blocks: 1, Size: 1, From: 5, To: 4}}
	for _, change := range []func(s *api.Stream){
		func(s *api.Stream) { s.Blocks = 0 }, func(s *api.Stream) { s.Blocks = 257 }, func(s *api.Stream) { s.Blocks = math.MinInt }, func(s *api.Stream) { s.Size = 0 }, func(s *api.Stream) { s.Size = 33 }, func(s *api.Stream) { s.Size++ },
		func(s *api.Stream) { s.From = -2 }, func(s *api.Stream) { s.From = math.MinInt64 }, func(s *api.Stream) { s.To = -1 }, func(s *api.Stream) { s.To = top + 1 }, func(s *api.Stream) { s.From, s.To = top+1, top+1 },
		func(s *api.Stream) { s.Items = append([]api.Item{item(-1, string(make([]byte, s.Size)))}, s.Items...) },
		func(s *api.Stream) { s.Items = append(s.Items, item(s.Blocks, string(make([]byte, s.Size)))) },
		func(s *api.Stream) { s.Items = append(s.Items, s.Items[len(s.Items)-1]) },
		func(s *api.Stream) { s.Items[0].Data = s.Items[0].Data[1:] },
		func(s *api.Stream) { s.Items[0], s.Items[len(s.Items)-1] = s.Items[len(s.Items)-1], s.Items[0] },
	} {
		for _, i := range []int{1, 4} {
			s := rights()[i]
			change(&s)
			l = append(l, s)
		}
	}
	return l
}

// P21.1
func TestRight(t *testing.T) {
	for i, s := range rights() {
		if !stream.Right(s) {
			t.Errorf("%d isn't right", i)
		}
	}
	for i, s := range wrongs() {
		if b, e := stream.Put(s); stream.Right(s) || e != api.ErrForm || len(b) != 0 {
			t.Errorf("wrong %d: %d", i, e)
		}
	}
}

// P21.1
func TestPut(t *testing.T) {
	for i, s := range rights() {
		want := crc.Seal(pack.Join([]byte("MEMO1"), pack.Put(uint64(s.Blocks), uint64(s.Size), uint64(s.From+1), uint64(s.To), uint64(len(s.Items)))))
		for _, x := range s.Items {
			want = append(want, crc.Seal(pack.Join(pack.Put(uint64(x.Block)), x.Data))...)
		}
		want = append(want, crc.Four(crc.Sum(want))...)
		if got, e := stream.Put(s); e != api.OK || !bytes.Equal(got, want) {
			t.Errorf("Put %d: %x, %d", i, got, e)
		}
		if got, e := stream.Read(want); e != api.OK || !stream.Same(got, s) {
			t.Errorf("Read %d: %v, %d", i, got, e)
		}
	}
	got, _ := stream.Put(api.Stream{Blocks: 2, Size: 1, From: 4, To: 300, Items: []api.Item{item(1, "x")}})
	if string(got[:11]) != "MEMO1\x02\x01\x05\xac\x02\x01" || string(got[15:17]) != "\x01x" || len(got) != 25 {
		t.Errorf("Put: %x", got)
	}
}

// P21.2
func TestReadErrors(t *testing.T) {
	for n := range 4 {
		if s, e := stream.Read(make([]byte, n)); e != api.ErrShort || !stream.Same(s, api.Stream{}) {
			t.Errorf("Read of %d bytes: %d", n, e)
		}
	}
	for _, b := range []string{"\x01\x00\x00\x00", "MEMO1MEMO1"} {
		if s, e := stream.Read([]byte(b)); e != api.ErrSum || !stream.Same(s, api.Stream{}) {
			t.Errorf("Read of %s: %d", b, e)
		}
	}
	seal := func(head string, items ...string) []byte {
		b := crc.Seal([]byte(head))
		for _, x := range items {
			b = append(b, crc.Seal([]byte(x))...)
		}
		return crc.Seal(b)
	}
	if _, e := stream.Read(seal("MEMO1\x02\x01\x05\x06\x01", "\x01x")); e != api.OK {
		t.Errorf("Read: %d", e)
	}
	for i, b := range [][]byte{
		make([]byte, 4), seal(""), seal("MEMO1"), seal("MEMO2\x02\x01\x05\x06\x01", "\x01x"), seal("MEMO1\x02\x01\x05\x06\x01"), seal("MEMO1\x02\x01\x05\x06\x01", "\x01x", "\x01x"), seal("MEMO1\x02\x01\x05\x06\x02", "\x01x"),
		seal("MEMO1\x02\x01\x05\x06\x00", "\x01x"), seal("MEMO1\x02\x01\x05\x06\x01", "\x02x"), seal("MEMO1\x02\x01\x05\x06\x01", "\x01xx"), seal("MEMO1\x02\x01\x05\x06\x01", "\x81\x00x"), seal("MEMO1\x02\x01\x05\x03\x01", "\x01x"),
		seal("MEMO1\x82\x00\x01\x05\x06\x01", "\x01x"), seal("MEMO1\x02\x01\x00\x06\x01", "\x01x"), seal("MEMO1\x02\x00\x05\x06\x00"), seal("MEMO1\x00\x01\x05\x06\x00"), seal("MEMO1\x02\x01\x05\x06\x02", "\x01x", "\x00x"),
		crc.Seal([]byte("MEMO1\x02\x01\x05\x06\x00")), crc.Seal(append([]byte("MEMO1\x02\x01\x05\x06\x00"), 1, 2, 3, 4)), crc.Seal(append(crc.Seal([]byte("MEMO1\x02\x01\x05\x06\x01")), "\x01x1234"...)),
		seal("MEMO1\x02\x01\x05\x06\xff\xff\xff\xff\xff\xff\xff\xff\xff\x01"),
	} {
		if s, e := stream.Read(b); e != api.ErrBytes || !stream.Same(s, api.Stream{}) {
			t.Errorf("Read of none %d: %d", i, e)
		}
	}
	whole, _ := stream.Put(rights()[4])
	for n := range whole {
		for _, b := range [][]byte{whole[:n], append(bytes.Clone(whole[:n]), whole[n+1:]...)} {
			if s, e := stream.Read(b); e == api.OK || !stream.Same(s, api.Stream{}) {
				t.Errorf("Read of a part to %d", n)
			}
		}
	}
	for n := range whole[:len(whole)-4] {
		if s, e := stream.Read(crc.Seal(whole[:n])); e != api.ErrBytes || !stream.Same(s, api.Stream{}) {
			t.Errorf("Read of a sealed part to %d: %d", n, e)
		}
	}
}

// P21.1
func TestSame(t *testing.T) {
	l := append(rights(), wrongs()...)
	for i := range l {
		if !stream.Same(l[i], l[i]) {
			t.Errorf("%d isn't like itself", i)
		}
		for k := range rights() {
			if i != k && stream.Same(l[i], l[k]) {
				t.Errorf("%d is like %d", i, k)
			}
		}
	}
	if !stream.Same(api.Stream{Items: []api.Item{}}, api.Stream{}) || stream.Same(api.Stream{Items: []api.Item{item(0, "a")}}, api.Stream{Items: []api.Item{item(0, "b")}}) {
		t.Error("Same")
	}
}

// P21.3, P40.5: with up to 32 bits side by side turned nothing is taken.
func TestTurnedIsNotTaken(t *testing.T) {
	for _, i := range []int{0, 1, 3, 4} {
		whole, _ := stream.Put(rights()[i])
		for from := range len(whole) * 8 {
			for _, turn := range []uint32{1, 3, 0x80000001, 0xffffffff, 0x82f63b78, 0x10325476} {
				b := bytes.Clone(whole)
				for k := range 32 {
					if at := from + k; turn>>k&1 == 1 && at < len(b)*8 {
						b[at/8] ^= 1 << (at % 8)
					}
				}
				if _, e := stream.Read(b); e == api.OK && !bytes.Equal(b, whole) {
					t.Fatalf("%x, turned at bit %d, is taken", turn, from)
				}
			}
		}
	}
}

// What is answered is new memory.
func TestShares(t *testing.T) {
	s := rights()[1]
	b, _ := stream.Put(s)
	got, _ := stream.Read(b)
	got.Items[0].Data[0] = '!'
	again, e := stream.Read(b)
	if e != api.OK || !stream.Same(again, s) {
		t.Error("Read shares")
	}
}
