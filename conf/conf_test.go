package conf_test

import (
	"math"
	"slices"
	"testing"

	"memento/api"
	"memento/conf"
)

// P6.1
func TestRight(t *testing.T) {
	for _, l := range [][]int{{0}, {6}, {0, 6}, {0, 1, 2, 3, 4, 5, 6}} {
		if !conf.Right(l) {
			t.Errorf("%v isn't right", l)
		}
	}
	for _, l := range [][]int{nil, {}, {-1}, {7}, {0, 0}, {1, 0}, {0, 2, 2}, {0, 1, 7}, {-1, 0}, {math.MinInt}, {math.MaxInt}} {
		if conf.Right(l) {
			t.Errorf("%v is right", l)
		}
	}
}

// P6.1
func TestOf(t *testing.T) {
	for _, x := range []struct{ l, want []int }{
		{nil, nil},
		{[]int{7, -1, math.MaxInt, math.MinInt}, nil},
		{[]int{6, 0, 6, 3, 0, -4, 9}, []int{0, 3, 6}},
		{[]int{0, 1, 2}, []int{0, 1, 2}},
	} {
		was := slices.Clone(x.l)
		got := conf.Of(x.l...)
		if !slices.Equal(got, x.want) || !slices.Equal(x.l, was) {
			t.Errorf("Of %v: %v, and behind it %v", was, got, x.l)
		}
		if len(got) > 0 {
			if got[0] = 5; !slices.Equal(x.l, was) {
				t.Error("Of shares what it was handed")
			}
		}
	}
}

// P6.1
func TestHas(t *testing.T) {
	if !conf.Has([]int{9, 3}, 9) || conf.Has([]int{9, 3}, 0) || conf.Has(nil, 0) {
		t.Error("Has")
	}
}

// P6.1
func TestWithAndWithout(t *testing.T) {
	for _, x := range []struct {
		l             []int
		n             int
		with, without []int
	}{
		{nil, 3, []int{3}, nil},
		{[]int{3}, 3, []int{3}, nil},
		{[]int{5, 1, 9, 1}, 3, []int{1, 3, 5}, []int{1, 5}},
		{[]int{5, 1, 9, 1}, 1, []int{1, 5}, []int{5}},
		{[]int{5, 1}, 7, []int{1, 5}, []int{1, 5}},
		{[]int{5, 1}, -1, []int{1, 5}, []int{1, 5}},
	} {
		l := append(make([]int, 0, 9), x.l...)
		if got := conf.With(l, x.n); !slices.Equal(got, x.with) {
			t.Errorf("With %v, %d: %v", x.l, x.n, got)
		}
		if got := conf.Without(l, x.n); !slices.Equal(got, x.without) {
			t.Errorf("Without %v, %d: %v", x.l, x.n, got)
		}
		if !slices.Equal(l, x.l) || l[:len(l)+1][len(l)] != 0 {
			t.Errorf("%v became %v", x.l, l[:len(l)+1])
		}
	}
}

// P6.1
func TestMost(t *testing.T) {
	for _, x := range []struct {
		l, yes []int
		want   bool
	}{
		{[]int{0, 1, 2}, []int{0, 2}, true},
		{[]int{0, 1, 2}, []int{2, 2, 2}, false},
		{[]int{0, 1, 2, 3}, []int{0, 3}, false},
		{[]int{0, 1, 2, 3}, []int{3, 1, 0}, true},
		{[]int{0, 0, 0, 1}, []int{0}, false},
		{[]int{0, 7, 8, 9}, []int{0}, true},
		{[]int{0, 1, 2}, []int{4, 5, 6, 0}, false},
		{[]int{7, 8}, []int{7, 8}, false},
		{[]int{3}, []int{3}, true},
		{nil, []int{0}, false},
		{nil, nil, false},
	} {
		if conf.Most(x.l, x.yes) != x.want {
			t.Errorf("Most of %v by %v", x.l, x.yes)
		}
	}
}

// set: the nodes of mask.
func set(mask int) []int {
	var l []int
	for n := range api.MaxNodes {
		if mask>>n&1 == 1 {
			l = append(l, n)
		}
	}
	return l
}

// P6.2
func TestTwoMostsMeet(t *testing.T) {
	all := 1<<api.MaxNodes - 1
	for a := range all + 1 {
		for b := range all + 1 {
			if a&b == 0 && conf.Most(set(all), set(a)) && conf.Most(set(all), set(b)) {
				t.Fatalf("%v and %v are both most", set(a), set(b))
			}
		}
	}
}
