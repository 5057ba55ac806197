package net_test

import (
	"math"
	"math/rand"
	"reflect"
	"testing"

	"memento/api"
	"memento/net"
)

func flight(from, to int, b string) api.Flight {
	return api.Flight{From: from, To: to, Bytes: []byte(b)}
}

func want(t *testing.T, p *net.Pool, names string) {
	t.Helper()
	got := ""
	for _, f := range p.All() {
		got += string(f.Bytes)
	}
	if got != names || p.Len() != len(names) {
		t.Errorf("under way: %s, %d, not %s", got, p.Len(), names)
	}
}

func letters(names string) []api.Flight {
	var l []api.Flight
	for _, c := range names {
		l = append(l, flight(1, 2, string(c)))
	}
	return l
}

// P19.1
func TestSend(t *testing.T) {
	p := net.New()
	want(t, p, "")
	p.Send()
	p.Send(letters("abc")...)
	p.Send(letters("d")...)
	want(t, p, "abcd")
	if got := p.All()[3]; !reflect.DeepEqual(got, flight(1, 2, "d")) {
		t.Errorf("All: %v", got)
	}
}

// P19.1
func TestTake(t *testing.T) {
	p := net.New()
	if f, ok := p.Take(0); ok || !reflect.DeepEqual(f, api.Flight{}) {
		t.Error("Take of nothing")
	}
	p.Send(letters("abcde")...)
	for _, n := range []int{-1, 5, math.MaxInt, math.MinInt} {
		if f, ok := p.Take(n); ok || !reflect.DeepEqual(f, api.Flight{}) {
			t.Errorf("Take of %d: %v", n, f)
		}
	}
	for _, x := range []struct {
		n         int
		got, rest string
	}{{2, "c", "abde"}, {3, "e", "abd"}, {0, "a", "bd"}, {1, "d", "b"}, {0, "b", ""}} {
		if f, ok := p.Take(x.n); !ok || !reflect.DeepEqual(f, flight(1, 2, x.got)) {
			t.Errorf("Take of %d: %v, %v", x.n, f, ok)
		}
		want(t, p, x.rest)
	}
}

// P19.1
func TestTwice(t *testing.T) {
	p := net.New()
	if p.Twice(0) {
		t.Error("Twice of none")
	}
	p.Send(letters("abc")...)
	if p.Twice(-1) || p.Twice(3) || p.Twice(math.MinInt) || !p.Twice(1) || !p.Twice(3) || !p.Twice(0) {
		t.Error("Twice")
	}
	want(t, p, "abcbba")
	if f, _ := p.Take(3); !reflect.DeepEqual(f, flight(1, 2, "b")) {
		t.Errorf("a doubled one: %v", f)
	}
}

// P19.1: nothing is shared.
func TestShares(t *testing.T) {
	p := net.New()
	l := letters("ab")
	p.Send(l...)
	p.Twice(0)
	l[0].Bytes[0] = '!'
	p.All()[1].Bytes[0] = '!'
	want(t, p, "aba")
	f, _ := p.Take(0)
	f.Bytes[0] = '!'
	want(t, p, "ba")
}

// P19.2: whatever is sent, taken, doubled: the pool is as a list would be.
func TestAsAList(t *testing.T) {
	rng := rand.New(rand.NewSource(1))
	p, l := net.New(), ""
	for i := range 3000 {
		n := rng.Intn(len(l)/2 + 2)
		switch rng.Intn(4) {
		case 0, 1:
			c := string(rune('a' + i%26))
			p.Send(letters(c)...)
			l += c
		case 2:
			if f, ok := p.Take(n); ok {
				if string(f.Bytes) != l[n:n+1] {
					t.Fatalf("Take of %d: %s", n, f.Bytes)
				}
				l = l[:n] + l[n+1:]
			}
		case 3:
			if p.Twice(n) {
				l += l[n : n+1]
			}
		}
	}
	want(t, p, l)
}
