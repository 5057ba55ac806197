package pack_test

import (
	"bytes"
	"math"
	"testing"

	"memento/api"
	"memento/pack"
)

// P1.1
func TestPutIsShortest(t *testing.T) {
	for _, x := range []struct {
		l    []uint64
		want string
	}{
		{nil, ""},
		{[]uint64{0}, "\x00"},
		{[]uint64{1, 127}, "\x01\x7f"},
		{[]uint64{128, 129}, "\x80\x01\x81\x01"},
		{[]uint64{300, 1}, "\xac\x02\x01"},
		{[]uint64{1<<14 - 1, 1 << 14}, "\xff\x7f\x80\x80\x01"},
		{[]uint64{1<<63 - 1}, "\xff\xff\xff\xff\xff\xff\xff\xff\x7f"},
		{[]uint64{1 << 63}, "\x80\x80\x80\x80\x80\x80\x80\x80\x80\x01"},
		{[]uint64{math.MaxUint64}, "\xff\xff\xff\xff\xff\xff\xff\xff\xff\x01"},
	} {
		if got := pack.Put(x.l...); string(got) != x.want {
			t.Errorf("Put %v: %x", x.l, got)
		}
	}
}

// P1.1
func TestLumpAndJoin(t *testing.T) {
	if got := pack.Lump(nil); string(got) != "\x00" {
		t.Errorf("Lump of nothing: %x", got)
	}
	b := bytes.Repeat([]byte{7}, 200)
	if got := pack.Lump(b); string(got) != "\xc8\x01"+string(b) {
		t.Errorf("Lump of 200: %x", got)
	}
	if got := pack.Join(); len(got) != 0 {
		t.Errorf("Join of none: %x", got)
	}
	a := append(make([]byte, 0, 8), "ab"...)
	got := pack.Join(a, nil, []byte("c"))
	if string(got) != "abc" || a[:3][2] != 0 {
		t.Errorf("Join: %s, spare room %x", got, a[:3])
	}
	if got[0] = 'z'; a[0] != 'a' {
		t.Error("Join shares what it was handed")
	}
}

// P1.2
func TestNumErrors(t *testing.T) {
	nine := "\xff\xff\xff\xff\xff\xff\xff\xff\xff"
	for _, x := range []struct {
		b    string
		most uint64
		n    uint64
		left int
		e    api.Errno
	}{
		{"\x05rest", 5, 5, 4, api.OK},
		{"\x05rest", 4, 0, 0, api.ErrLong},
		{"", 5, 0, 0, api.ErrShort},
		{"\x85", 5, 0, 0, api.ErrShort},
		{nine, 5, 0, 0, api.ErrShort},
		{"\x85\x00", 5, 0, 0, api.ErrBytes},
		{"\x85\x80\x00", 5, 0, 0, api.ErrBytes},
		{"\x80\x80\x80\x80\x80\x80\x80\x80\x80\x00", 5, 0, 0, api.ErrBytes},
		{nine + "\x02", math.MaxUint64, 0, 0, api.ErrBytes},
		{nine + "\x80", math.MaxUint64, 0, 0, api.ErrBytes},
		{nine + "\x01", math.MaxUint64, math.MaxUint64, 0, api.OK},
		{nine + "\x01", math.MaxUint64 - 1, 0, 0, api.ErrLong},
	} {
		r := pack.New([]byte(x.b))
		if n := r.Num(x.most); n != x.n || r.Left() != x.left || r.Err() != x.e {
			t.Errorf("Num of %x, %d: %d, %d left, %d", x.b, x.most, n, r.Left(), r.Err())
		}
	}
}

// P1.2
func TestLumpErrors(t *testing.T) {
	for _, x := range []struct {
		b    string
		most int
		want string
		left int
		e    api.Errno
	}{
		{"\x03abcd", 3, "abc", 1, api.OK},
		{"\x03abcd", 2, "", 0, api.ErrLong},
		{"\x03ab", 3, "", 0, api.ErrShort},
		{"\x00a", -1, "", 1, api.OK},
		{"\x01a", math.MinInt, "", 0, api.ErrLong},
		{"\x80\x00", 9, "", 0, api.ErrBytes},
		{"\xff\xff\xff\xff\xff\xff\xff\xff\xff\x01", math.MaxInt, "", 0, api.ErrLong},
		{"\xff\xff\xff\xff\xff\xff\xff\xff\x7f", math.MaxInt, "", 0, api.ErrShort},
	} {
		r := pack.New([]byte(x.b))
		if got := r.Lump(x.most); string(got) != x.want || r.Left() != x.left || r.Err() != x.e {
			t.Errorf("Lump of %x, %d: %x, %d left, %d", x.b, x.most, got, r.Left(), r.Err())
		}
	}
}

// P1.2
func TestFirstErrorStays(t *testing.T) {
	r := pack.New([]byte("\x09\x01a"))
	if r.Num(8); r.Num(9) != 0 || len(r.Lump(9)) != 0 || r.Left() != 0 || r.Err() != api.ErrLong {
		t.Errorf("behind ErrLong: %d left, %d", r.Left(), r.Err())
	}
}

// P1.2: what is handed in isn't kept, what is answered is new.
func TestReaderShares(t *testing.T) {
	b := []byte("\x02ab\x01c")
	r := pack.New(b)
	b[1], b[4] = 'x', 'x'
	l := r.Lump(2)
	if string(l) != "ab" {
		t.Errorf("a Reader keeps what it is handed: %s", l)
	}
	if _ = append(l, "zz"...); string(r.Lump(1)) != "c" {
		t.Error("a lump shares what is behind it")
	}
}

// P1.3
func TestSaidIsHeard(t *testing.T) {
	said := []uint64{0, 1}
	for i := range 64 {
		said = append(said, 1<<i, 1<<i-1, 1<<i+1)
	}
	r := pack.New(pack.Join(pack.Put(said...), pack.Lump([]byte("end"))))
	for _, n := range said {
		if got := r.Num(math.MaxUint64); got != n {
			t.Fatalf("%d is heard as %d", n, got)
		}
	}
	if got := r.Lump(3); string(got) != "end" || r.Left() != 0 || r.Err() != api.OK {
		t.Errorf("the end: %s, %d left, %d", got, r.Left(), r.Err())
	}
}
