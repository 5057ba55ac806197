package elect_test

import (
	"math"
	"slices"
	"testing"

	"memento/api"
	"memento/elect"
)

// P7.1
func TestTimeout(t *testing.T) {
	for _, x := range [][3]int{
		{0, 0, 10}, {1, 0, 17}, {2, 0, 14}, {6, 0, 12}, {0, 1, 13}, {1, 1, 10}, {3, 4, 13}, {6, 9, 19},
		{10, 10, 10}, {11, 21, 10}, {-1, -1, 10}, {math.MinInt, 1, 13}, {1, math.MinInt, 17}, {math.MaxInt, math.MaxInt, 10},
	} {
		if got := elect.Timeout(x[0], x[1]); got != x[2] {
			t.Errorf("Timeout(%d, %d): %d", x[0], x[1], got)
		}
	}
}

// P7.1
func TestNewer(t *testing.T) {
	for _, x := range []struct {
		term, index, lastTerm, lastIndex int
		want                             bool
	}{
		{2, 1, 1, 9, true}, {1, 9, 2, 1, false}, {2, 5, 2, 5, true}, {2, 6, 2, 5, true}, {2, 4, 2, 5, false}, {0, 0, 0, 0, true}, {0, -1, -1, 0, true},
	} {
		if elect.Newer(x.term, x.index, x.lastTerm, x.lastIndex) != x.want {
			t.Errorf("Newer: %v", x)
		}
	}
}

// P7.2
func TestCommit(t *testing.T) {
	for i, x := range []struct {
		term, commit int
		match, terms []int
		want         int
	}{
		{3, 5, []int{8, 7, 0}, []int{3, 3, 3}, 7},
		{3, 5, []int{7, 8, 8}, []int{3, 3, 3}, 8},
		{3, 5, []int{8, 7, 0}, []int{3, 2, 3}, 6},
		{3, 5, []int{8, 7, 0}, []int{2, 3, 3}, 7},
		{3, 5, []int{8, 7, 0}, []int{2, 2, 3}, 5},
		{3, 5, []int{9, 9, 9}, []int{3}, 6},
		{3, 5, []int{9, 9, 9}, nil, 5},
		{3, 5, []int{9, 9, 0, 0}, []int{3, 3, 3, 3}, 5},
		{3, 5, []int{9, 9, 7, 0}, []int{3, 3, 3, 3}, 7},
		{3, 5, []int{0, 9, 7, 6, 9}, []int{3, 3, 3, 3}, 7},
		{3, 5, []int{6}, []int{3, 3}, 6},
		{3, 5, []int{4, 5}, []int{3}, 5},
		{3, 5, nil, []int{3}, 5},
		{-1, -3, []int{0, 0, -9}, []int{-1, -1}, -1},
	} {
		was := slices.Clone(x.match)
		if got := elect.Commit(x.term, x.commit, x.match, x.terms); got != x.want {
			t.Errorf("Commit %d: %d, not %d", i, got, x.want)
		}
		if !slices.Equal(was, x.match) {
			t.Errorf("Commit %d changes match: %v", i, x.match)
		}
	}
	elect.Commit(0, math.MaxInt, []int{math.MaxInt, math.MinInt}, []int{0, 0})
	elect.Commit(0, math.MinInt, []int{math.MaxInt, math.MinInt}, []int{0, 0})
}

// P7.3
func TestNotAllAtOnce(t *testing.T) {
	for term := range 50 {
		seen := map[int]int{}
		for n := range api.MaxNodes {
			at := elect.Timeout(n, term)
			if seen[at]++; seen[at] > 1 || at < api.Wait || at >= api.Wait+api.Spread {
				t.Errorf("term %d: node %d at %d", term, n, at)
			}
		}
	}
}
