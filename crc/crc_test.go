package crc_test

import (
	"bytes"
	hash "hash/crc32"
	"testing"

	"memento/crc"
)

func bytesOf(n int) []byte {
	b := make([]byte, n)
	for i := range b {
		b[i] = byte(i*i*37 + i>>3)
	}
	return b
}

// P2.1
func TestSum(t *testing.T) {
	if got := crc.Sum([]byte("123456789")); got != 0xe3069283 {
		t.Errorf("Sum of 123456789: %x", got)
	}
	if crc.Sum() != 0 || crc.Sum(nil, nil) != 0 {
		t.Error("Sum of nothing")
	}
	table := hash.MakeTable(hash.Castagnoli)
	for n := range 300 {
		b := bytesOf(n)
		want := hash.Checksum(b, table)
		if got := crc.Sum(b[:n/3], b[n/3:n/2], nil, b[n/2:]); got != want {
			t.Errorf("Sum of %d bytes: %x, not %x", n, got, want)
		}
		if got := crc.More(crc.Sum(b[:n/3]), b[n/3:]); got != want {
			t.Errorf("More to %d bytes: %x, not %x", n, got, want)
		}
	}
}

// P2.1
func TestFour(t *testing.T) {
	if got := crc.Four(0x01020384); string(got) != "\x84\x03\x02\x01" {
		t.Errorf("Four: %x", got)
	}
}

// P2.1
func TestSealAndOpen(t *testing.T) {
	for n := range 20 {
		b := append(make([]byte, 0, 64), bytesOf(n)...)
		s := crc.Seal(b)
		if len(s) != n+4 || !bytes.Equal(s[:n], b) || !bytes.Equal(s[n:], crc.Four(crc.Sum(b))) {
			t.Errorf("Seal of %x: %x", b, s)
		}
		if spare := b[:n+4][n:]; !bytes.Equal(spare, make([]byte, 4)) {
			t.Errorf("Seal changes the spare room: %x", spare)
		}
		got, ok := crc.Open(s)
		if !ok || !bytes.Equal(got, b) {
			t.Errorf("Open of %x: %x, %v", s, got, ok)
		}
		if _ = append(got, 1, 2); !bytes.Equal(s, crc.Seal(b)) {
			t.Error("what Open answers shares what it was handed")
		}
	}
	for _, b := range [][]byte{nil, {0}, {0, 0, 0}, {1, 0, 0, 0}, crc.Seal(bytesOf(9))[:12]} {
		if got, ok := crc.Open(b); ok || got != nil {
			t.Errorf("Open of %x: %x, %v", b, got, ok)
		}
	}
	if got, ok := crc.Open(make([]byte, 4)); !ok || len(got) != 0 {
		t.Error("Open of what Seal makes of nothing")
	}
}

// P2.2
func TestTurnedBitsShow(t *testing.T) {
	s := crc.Seal(bytesOf(21))
	for from := range len(s) * 8 {
		for _, turn := range []uint32{1, 3, 0x80000001, 0xffffffff, 0x82f63b78, 0x8f6e37a1} {
			b := bytes.Clone(s)
			for i := range 32 {
				if at := from + i; turn>>i&1 == 1 && at < len(b)*8 {
					b[at/8] ^= 1 << (at % 8)
				}
			}
			if _, ok := crc.Open(b); ok != bytes.Equal(b, s) {
				t.Fatalf("%x turned at bit %d doesn't show", turn, from)
			}
		}
	}
}
