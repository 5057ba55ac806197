package wal_test

import (
	"bytes"
	"math"
	"strings"
	"testing"

	"memento/api"
	"memento/crc"
	"memento/pack"
	"memento/pdisk"
	"memento/wal"
)

func body(n int) []byte {
	b := make([]byte, n)
	for i := range b {
		b[i] = byte(i*7 + n)
	}
	return b
}

// sector: a sector of gen 0x0201 with p, as P5.1 says it.
func sector(p []byte) []byte {
	g := "\x01\x02\x00\x00\x00\x00\x00\x00"
	return []byte(g + string(p) + strings.Repeat("\x00", 48-len(p)) + g)
}

const gen = 0x0201

// P5.1
func TestNeed(t *testing.T) {
	for n, want := range map[int]int{0: 1, 43: 1, 44: 2, 91: 2, 92: 3, 127: 3, 128: 3, 138: 3, 139: 4, api.MaxBody: 1366} {
		if got := wal.Need(body(n)); got != want {
			t.Errorf("Need of %d: %d", n, got)
		}
	}
	if wal.Need() != 0 || wal.Need(body(43), nil, body(44)) != 4 {
		t.Error("Need of several")
	}
}

// P5.1
func TestAppend(t *testing.T) {
	for _, n := range []int{0, 1, 43, 44, 91, 92, 127, 128, 1000} {
		d := pdisk.New(40)
		b := body(n)
		rec := crc.Seal(pack.Lump(b))
		need := wal.Need(b)
		end, e := wal.Append(d, 3, 3+need, gen, b)
		if e != api.OK || end != 3+need {
			t.Errorf("Append of %d: %d, %d", n, end, e)
		}
		for i := range need {
			if want := sector(rec[i*48 : min(i*48+48, len(rec))]); !bytes.Equal(d.Read(3+i), want) {
				t.Errorf("sector %d of %d: %x", i, n, d.Read(3+i))
			}
		}
		if !bytes.Equal(d.Read(2), make([]byte, 64)) || !bytes.Equal(d.Read(end), make([]byte, 64)) {
			t.Errorf("Append of %d writes beside it", n)
		}
		if d.Crash(0, 0); !bytes.Equal(d.Read(3), make([]byte, 64)) {
			t.Errorf("Append of %d is flushed", n)
		}
	}
}

// P5.1
func TestAppendErrors(t *testing.T) {
	d := pdisk.New(10)
	long := make([]byte, api.MaxBody+1)
	for i, x := range []struct {
		d        *pdisk.Disk
		from, to int
		b        []byte
		e        api.Errno
	}{
		{nil, 0, 9, long, api.ErrSector},
		{d, -1, 9, long, api.ErrLong},
		{d, -1, 9, nil, api.ErrSpace},
		{d, math.MinInt, math.MaxInt, nil, api.ErrSpace},
		{d, 4, 4, nil, api.ErrSpace},
		{d, 5, 4, nil, api.ErrSpace},
		{d, 5, math.MinInt, nil, api.ErrSpace},
		{d, math.MaxInt, math.MaxInt, nil, api.ErrSpace},
		{d, 4, 5, body(44), api.ErrSpace},
		{d, 0, math.MaxInt, make([]byte, api.MaxBody), api.ErrSector},
		{d, 10, 11, nil, api.ErrSector},
		{d, 9, 11, body(44), api.ErrSector},
	} {
		if end, e := wal.Append(x.d, x.from, x.to, gen, x.b); end != 0 || e != x.e {
			t.Errorf("Append %d: %d, %d", i, end, e)
		}
	}
	if end, e := wal.Append(pdisk.New(2000), 0, 1366, gen, make([]byte, api.MaxBody)); end != 1366 || e != api.OK {
		t.Errorf("Append of MaxBody: %d, %d", end, e)
	}
	d = pdisk.New(10)
	d.Power(1)
	if end, e := wal.Append(d, 2, 9, gen, body(44)); end != 0 || e != api.ErrDead {
		t.Errorf("Append without power: %d, %d", end, e)
	}
	if d.Read(2)[0] != 1 || d.Read(3)[0] != 0 {
		t.Error("Append isn't sector by sector")
	}
}

// written: a disk with records of these bodies from sector 2 on, and the sector behind them.
func written(t *testing.T, l ...[]byte) (*pdisk.Disk, int) {
	t.Helper()
	d, at := pdisk.New(3000), 2
	for _, b := range l {
		next, e := wal.Append(d, at, 3000, gen, b)
		if e != api.OK {
			t.Fatal(e)
		}
		at = next
	}
	return d, at
}

func same(a, b [][]byte) bool {
	if len(a) != len(b) {
		return false
	}
	for i := range a {
		if !bytes.Equal(a[i], b[i]) {
			return false
		}
	}
	return true
}

// P5.2
func TestScan(t *testing.T) {
	l := [][]byte{body(5), nil, body(44), body(1000), body(api.MaxBody), body(43)}
	d, end := written(t, l...)
	if got, at := wal.Scan(d, 2, 3000, gen); !same(got, l) || at != end {
		t.Errorf("Scan: %d bodies, %d", len(got), at)
	}
	if got, at := wal.Scan(d, 2, end, gen); !same(got, l) || at != end {
		t.Errorf("Scan to the end: %d bodies, %d", len(got), at)
	}
	if got, at := wal.Scan(d, 2, end-1, gen); !same(got, l[:5]) || at != end-1 {
		t.Errorf("Scan to ahead of the last: %d bodies, %d", len(got), at)
	}
	if got, at := wal.Scan(d, 4, 5, gen); len(got) != 0 || at != 4 {
		t.Errorf("Scan to within the third: %d bodies, %d", len(got), at)
	}
	if got, at := wal.Scan(d, 4, math.MaxInt, gen); !same(got, l[2:]) || at != end {
		t.Errorf("Scan from the third on: %d bodies, %d", len(got), at)
	}
}

// P5.2
func TestScanOfNothing(t *testing.T) {
	d, end := written(t, body(5))
	for _, x := range []struct {
		d        *pdisk.Disk
		from, to int
		gen      uint64
	}{
		{nil, 3, 9, gen}, {pdisk.New(9), 3, 9, 0}, {pdisk.New(9), 3, 9, gen}, {d, 2, 9, gen + 1}, {d, -1, 9, gen}, {d, math.MinInt, math.MaxInt, gen},
		{d, 2, 2, gen}, {d, 2, math.MinInt, gen}, {d, end, 9, gen}, {d, 3000, 3001, gen}, {d, math.MaxInt, math.MaxInt, gen},
	} {
		if got, at := wal.Scan(x.d, x.from, x.to, x.gen); len(got) != 0 || at != x.from {
			t.Errorf("Scan of %d to %d: %x, %d", x.from, x.to, got, at)
		}
	}
}

// P5.2
func TestWhatIsBehindDoesNotCount(t *testing.T) {
	rec := crc.Seal(pack.Lump([]byte("ab")))
	d := pdisk.New(4)
	d.Write(0, sector(append(rec, "junk"...)))
	if got, at := wal.Scan(d, 0, 4, gen); !same(got, [][]byte{[]byte("ab")}) || at != 1 {
		t.Errorf("%x, %d", got, at)
	}
}

// P5.2
func TestNoRecord(t *testing.T) {
	for i, rec := range [][]byte{
		crc.Seal([]byte("\x80\x00")),              // a number that isn't in its shortest form
		crc.Seal(pack.Lump([]byte("abc")))[:7],    // its sum is cut off
		crc.Seal([]byte("\x02abc")),               // another length than its own
		append(pack.Lump([]byte("abc")), 1, 2, 3), // another sum
		bytes.Repeat([]byte{0xff}, 48),
	} {
		d := pdisk.New(4)
		d.Write(0, sector(rec))
		if got, at := wal.Scan(d, 0, 4, gen); len(got) != 0 || at != 0 {
			t.Errorf("%d: %x, %d", i, got, at)
		}
	}
}

// P5.2, P5.3
func TestTornEnd(t *testing.T) {
	first, second := body(60), body(120)
	for keep := range uint64(1 << 5) {
		for _, torn := range []int{-1, 0, 3, 8, 20, 55, 56, 60, 63} {
			d := pdisk.New(9)
			for i := range 9 {
				d.Write(i, sector(body(48)))
			}
			at, _ := wal.Append(d, 0, 9, gen+256, first)
			wal.Append(d, at, 9, gen+256, second)
			d.Flush()
			at, _ = wal.Append(d, 0, 9, gen, first)
			wal.Append(d, at, 9, gen, second)
			d.Crash(keep, torn)
			got, end := wal.Scan(d, 0, 9, gen)
			want, behind := [][]byte(nil), 0
			whole := torn < 0 || torn >= 58 // the gens differ in their second bytes alone
			if keep&3 == 3 && (keep > 3 || whole) {
				want, behind = [][]byte{first}, 2
				if keep == 31 && whole {
					want, behind = [][]byte{first, second}, 5
				}
			}
			if !same(got, want) || end != behind {
				t.Errorf("keep %b, torn %d: %d bodies, %d", keep, torn, len(got), end)
			}
		}
	}
}
