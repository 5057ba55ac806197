package slot_test

import (
	"bytes"
	"math"
	"testing"

	"memento/api"
	"memento/pdisk"
	"memento/slot"
)

// P4.1
func TestPut(t *testing.T) {
	got := slot.Put(slot.Slot{Count: 0x0102030405060708, Gen: 0xa1b2, Area: 1})
	want := make([]byte, 64)
	copy(want, "\x08\x07\x06\x05\x04\x03\x02\x01\xb2\xa1\x00\x00\x00\x00\x00\x00\x01")
	copy(want[56:], "\x08\x07\x06\x05\x04\x03\x02\x01")
	if !bytes.Equal(got, want) {
		t.Errorf("Put: %x", got)
	}
	if got := slot.Put(slot.Slot{Area: math.MinInt}); !bytes.Equal(got, make([]byte, 64)) {
		t.Errorf("Put of an area below 0: %x", got)
	}
}

// P4.1
func TestRead(t *testing.T) {
	for _, s := range []slot.Slot{{1, 0, 0}, {math.MaxUint64, math.MaxUint64, 1}, {300, 299, 0}} {
		b := slot.Put(s)
		if got, ok := slot.Read(b); !ok || got != s {
			t.Errorf("Read of %v: %v, %v", s, got, ok)
		}
		for i := range 64 {
			torn := bytes.Clone(b)
			torn[i] ^= 4
			if i >= 8 && i < 16 {
				continue
			}
			if got, ok := slot.Read(torn); ok || got != (slot.Slot{}) {
				t.Errorf("Read of %v, other at %d: %v", s, i, got)
			}
		}
		for _, b := range [][]byte{nil, b[:63], append(b, 0)} {
			if got, ok := slot.Read(b); ok || got != (slot.Slot{}) {
				t.Errorf("Read of %d bytes: %v", len(b), got)
			}
		}
	}
	for _, s := range []slot.Slot{{0, 5, 1}, {7, 5, 2}, {7, 5, math.MaxInt}, {}} {
		if got, ok := slot.Read(slot.Put(s)); ok || got != (slot.Slot{}) {
			t.Errorf("Read of %v: %v", s, got)
		}
	}
	b := slot.Put(slot.Slot{Count: 1})
	b[23] = 0x80
	if _, ok := slot.Read(b); ok {
		t.Error("Read of an area of 2^63")
	}
}

// P4.1
func TestChoose(t *testing.T) {
	no := make([]byte, 64)
	five, six := slot.Slot{5, 50, 0}, slot.Slot{6, 60, 1}
	also := slot.Slot{5, 51, 1}
	for i, x := range []struct {
		zero, one []byte
		want      slot.Slot
		ok        bool
	}{
		{no, no, slot.Slot{}, false},
		{slot.Put(five), no, five, true},
		{no, slot.Put(five), five, true},
		{slot.Put(six), slot.Put(five), six, true},
		{slot.Put(five), slot.Put(six), six, true},
		{slot.Put(five), slot.Put(also), five, true},
		{slot.Put(also), slot.Put(five), also, true},
	} {
		d := pdisk.New(2)
		d.Write(0, x.zero)
		d.Write(1, x.one)
		if got, ok := slot.Choose(d); ok != x.ok || got != x.want {
			t.Errorf("Choose %d: %v, %v", i, got, ok)
		}
	}
	if got, ok := slot.Choose(nil); ok || got != (slot.Slot{}) {
		t.Error("Choose of no disk")
	}
	if got, ok := slot.Choose(pdisk.New(0)); ok || got != (slot.Slot{}) {
		t.Error("Choose of no sectors")
	}
	d := pdisk.New(1)
	slot.Set(d, six)
	if got, ok := slot.Choose(d); !ok || got != six {
		t.Error("Choose of one sector")
	}
}

// P4.1
func TestSet(t *testing.T) {
	d := pdisk.New(3)
	for i, s := range []slot.Slot{{8, 1, 0}, {9, 2, 1}} {
		if e := slot.Set(d, s); e != api.OK || !bytes.Equal(d.Read(i), slot.Put(s)) {
			t.Errorf("Set of %v: %d", s, e)
		}
		d.Crash(0, 0)
		if !bytes.Equal(d.Read(i), slot.Put(s)) {
			t.Errorf("Set of %v isn't sure", s)
		}
	}
	if e := slot.Set(nil, slot.Slot{}); e != api.ErrSector {
		t.Errorf("Set to no disk: %d", e)
	}
	if e := slot.Set(pdisk.New(1), slot.Slot{Count: 1}); e != api.ErrSector {
		t.Errorf("Set to no sector: %d", e)
	}
	for n := range 2 {
		d.Power(n)
		if e := slot.Set(d, slot.Slot{Count: 10}); e != api.ErrDead {
			t.Errorf("Set with power for %d: %d", n, e)
		}
	}
	d.Power(2)
	if e := slot.Set(d, slot.Slot{Count: 10}); e != api.OK {
		t.Errorf("Set with power for 2: %d", e)
	}
}

// P4.2
func TestOneIsAlwaysWhole(t *testing.T) {
	for torn := range 65 {
		d := pdisk.New(2)
		was, is := slot.Slot{8, 1, 0}, slot.Slot{9, 2, 1}
		slot.Set(d, slot.Slot{7, 1, 0})
		slot.Set(d, was)
		d.Power(1)
		slot.Set(d, is)
		d.Crash(1, torn)
		if got, ok := slot.Choose(d); !ok || got != was && got != is {
			t.Errorf("torn at %d: %v, %v", torn, got, ok)
		}
	}
}
