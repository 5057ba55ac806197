package pdisk_test

import (
	"bytes"
	"math"
	"strings"
	"testing"

	"memento/api"
	"memento/pdisk"
)

// full: a sector of c.
func full(c string) []byte {
	return []byte(strings.Repeat(c, api.Sector))
}

func want(t *testing.T, d *pdisk.Disk, i int, begin string) {
	t.Helper()
	s := append([]byte(begin), make([]byte, api.Sector-len(begin))...)
	if got := d.Read(i); !bytes.Equal(got, s) {
		t.Errorf("sector %d: %q, not %q", i, got, s)
	}
}

// P3.1
func TestNew(t *testing.T) {
	for _, x := range [][2]int{{math.MinInt, 0}, {-1, 0}, {0, 0}, {3, 3}, {1 << 20, 1 << 20}, {1<<20 + 1, 1 << 20}, {math.MaxInt, 1 << 20}} {
		d := pdisk.New(x[0])
		if d.Len() != x[1] || d.Dead() {
			t.Errorf("New(%d): %d sectors", x[0], d.Len())
		}
		if x[1] > 0 {
			want(t, d, x[1]-1, "")
		}
		for _, i := range []int{math.MinInt, -1, x[1], math.MaxInt} {
			if len(d.Read(i)) != 0 {
				t.Errorf("New(%d): a sector %d", x[0], i)
			}
		}
	}
}

// P3.1
func TestWriteAndRead(t *testing.T) {
	d := pdisk.New(3)
	b := []byte("ab")
	if e := d.Write(1, b); e != api.OK {
		t.Errorf("Write: %d", e)
	}
	b[0] = 'z'
	want(t, d, 1, "ab")
	want(t, d, 0, "")
	d.Read(1)[0] = 'y'
	want(t, d, 1, "ab")
	if e := d.Write(1, full("c")); e != api.OK {
		t.Errorf("Write of a whole sector: %d", e)
	}
	d.Write(1, []byte("d"))
	want(t, d, 1, "d")
	if e := d.Write(2, nil); e != api.OK {
		t.Errorf("Write of nothing: %d", e)
	}
}

// P3.1
func TestWriteErrors(t *testing.T) {
	d := pdisk.New(2)
	long := append(full("x"), 'x')
	for _, dead := range []bool{false, true} {
		if dead {
			d.Power(0)
		}
		for _, i := range []int{-1, 2, math.MaxInt, math.MinInt} {
			if e := d.Write(i, long); e != api.ErrSector {
				t.Errorf("Write of no sector: %d", e)
			}
		}
		if e := d.Write(0, long); e != api.ErrLong {
			t.Errorf("Write of too much: %d", e)
		}
	}
	if e := d.Write(0, []byte("a")); e != api.ErrDead {
		t.Errorf("Write without power: %d", e)
	}
	want(t, d, 0, "")
}

// P3.1
func TestPower(t *testing.T) {
	d := pdisk.New(2)
	d.Power(3)
	d.Write(2, nil)
	d.Write(0, make([]byte, 65))
	for i := range 3 {
		if d.Dead() {
			t.Fatalf("dead behind %d", i)
		}
		e := api.OK
		if i == 1 {
			e = d.Flush()
		} else {
			e = d.Write(0, []byte{byte(i + 1)})
		}
		if e != api.OK {
			t.Fatalf("%d: %d", i, e)
		}
	}
	if !d.Dead() || d.Write(1, []byte("a")) != api.ErrDead || d.Flush() != api.ErrDead {
		t.Error("the power isn't gone")
	}
	want(t, d, 0, "\x03")
	want(t, d, 1, "")
	d.Crash(0, -1)
	if d.Dead() {
		t.Error("dead behind a crash")
	}
	want(t, d, 0, "\x01")
	for range 99 {
		if d.Write(0, nil) != api.OK {
			t.Fatal("the power goes though nobody said so")
		}
	}
	d.Power(1)
	d.Power(math.MinInt)
	if d.Flush() != api.OK || d.Flush() != api.OK || d.Dead() {
		t.Error("Power below 0 isn't never")
	}
	d.Power(0)
	if !d.Dead() || d.Flush() != api.ErrDead {
		t.Error("Power(0) isn't at once")
	}
}

// P3.2
func TestCrashKeepsByMask(t *testing.T) {
	for mask := range uint64(16) {
		d := pdisk.New(4)
		d.Write(0, []byte("sure"))
		d.Flush()
		d.Write(0, []byte("a"))
		d.Write(1, []byte("b"))
		d.Write(0, []byte("c"))
		d.Write(2, []byte("d"))
		d.Crash(mask, -1)
		first := "sure"
		if mask&1 == 1 {
			first = "a"
		}
		if mask&4 == 4 {
			first = "c"
		}
		want(t, d, 0, first)
		want(t, d, 1, "b"[:mask>>1&1])
		want(t, d, 2, "d"[:mask>>3])
		d.Crash(0, -1)
		want(t, d, 0, first)
	}
}

// P3.2
func TestCrashTears(t *testing.T) {
	for _, torn := range []int{math.MinInt, -1, 0, 1, 63, 64, 65, math.MaxInt} {
		d := pdisk.New(2)
		d.Write(0, full("o"))
		d.Flush()
		d.Write(0, full("l"))
		d.Write(1, full("k"))
		d.Write(0, full("m"))
		d.Write(0, full("n"))
		d.Crash(7, torn)
		n := torn
		if torn < 0 || torn > 64 {
			n = 64
		}
		want(t, d, 0, strings.Repeat("m", n)+strings.Repeat("l", 64-n))
		want(t, d, 1, string(full("k")))
	}
	d := pdisk.New(1)
	d.Write(0, full("a"))
	d.Write(0, full("b"))
	d.Crash(2, 10)
	want(t, d, 0, "bbbbbbbbbb")
}

// P3.2
func TestCrashBehind64(t *testing.T) {
	d := pdisk.New(70)
	for i := range 70 {
		d.Write(i, []byte("w"))
	}
	d.Crash(math.MaxUint64, 0)
	want(t, d, 62, "w")
	want(t, d, 63, "")
	want(t, d, 64, "")
	want(t, d, 69, "")
}

// P3.3
func TestSureIsSure(t *testing.T) {
	d := pdisk.New(2)
	d.Write(0, []byte("a"))
	d.Write(1, []byte("b"))
	d.Flush()
	d.Write(1, []byte("c"))
	d.Crash(0, 0)
	want(t, d, 0, "a")
	want(t, d, 1, "b")
}
