package raft_test

import (
	"math/rand"
	"slices"
	"testing"

	"memento/api"
	"memento/entry"
	"memento/raft"
	"memento/store"
)

// crowd: all members of a group, what they saved, and the words between them.
type crowd struct {
	t       *testing.T
	rafts   []*raft.Raft
	images  []api.Image
	under   []api.Msg
	had     map[int]api.Entry // what anybody applied at an Index
	leaders map[int]int       // of each term
	at      []int             // up to where each one applied
}

func newCrowd(t *testing.T, n int, members ...int) *crowd {
	c := &crowd{t: t, had: map[int]api.Entry{}, leaders: map[int]int{}, at: make([]int, n)}
	for i := range n {
		c.images = append(c.images, api.Image{Hard: api.Hard{Vote: -1}, Base: api.Base{Conf: members}})
		c.rafts = append(c.rafts, raft.New(i, group, c.images[i]))
	}
	return c
}

// took: member i made o.
func (c *crowd) took(i int, o raft.Out) {
	for _, r := range o.Recs {
		c.images[i] = store.Turn(c.images[i], r)
	}
	c.under = append(c.under, o.Msgs...)
	r := c.rafts[i]
	if o.Restore {
		c.at[i] = r.Commit()
	}
	for _, e := range r.Ready() {
		if had, ok := c.had[e.Index]; ok && !entry.Same(had, e) {
			c.t.Fatalf("member %d has another entry at %d: %v, %v", i, e.Index, e, had)
		}
		if e.Index != c.at[i]+1 {
			c.t.Fatalf("member %d applies %d behind %d", i, e.Index, c.at[i])
		}
		c.had[e.Index], c.at[i] = e, e.Index
	}
	if r.Role() == api.Leader {
		if l, ok := c.leaders[r.Term()]; ok && l != i {
			c.t.Fatalf("%d and %d lead in term %d", l, i, r.Term())
		}
		c.leaders[r.Term()] = i
	}
	if !sameImage(r.Image(), c.images[i]) {
		c.t.Fatalf("member %d isn't as it was saved:\n%v\n%v", i, r.Image(), c.images[i])
	}
}

func (c *crowd) arrive(k int) {
	m := c.under[k]
	c.under = slices.Delete(c.under, k, k+1)
	c.took(m.To, c.rafts[m.To].Recv(m))
}

// happen: something.
func (c *crowd) happen(rng *rand.Rand) {
	i := rng.Intn(len(c.rafts))
	switch k := rng.Intn(100); {
	case k < 30:
		c.took(i, c.rafts[i].Tick())
	case k < 75 && len(c.under) > 0:
		c.arrive(rng.Intn(len(c.under)))
	case k < 80 && len(c.under) > 0:
		c.under = append(c.under, c.under[rng.Intn(len(c.under))])
	case k < 83 && len(c.under) > 0:
		c.under = slices.Delete(c.under, 0, 1)
	case k < 90:
		o, _, _ := c.rafts[i].Propose(api.Cmd, []byte{byte(rng.Intn(256))})
		c.took(i, o)
	case k < 93:
		o, _, _ := c.rafts[i].Propose(api.Conf, []byte{byte(rng.Intn(len(c.rafts))), byte(rng.Intn(2))})
		c.took(i, o)
	case k < 96:
		c.took(i, c.rafts[i].Compact([]byte{byte(c.at[i])}))
	case k < 98:
		c.rafts[i] = raft.New(i, group, c.images[i])
		c.at[i] = c.images[i].Base.Index
	}
}

// P12.7: whatever is lost, doubled, late, whoever comes and goes: what one has applied all apply there.
func TestWhatMostHaveIsHad(t *testing.T) {
	for seed := range int64(60) {
		rng := rand.New(rand.NewSource(seed))
		c := newCrowd(t, 5, 0, 1, 2)
		for range 3000 {
			c.happen(rng)
		}
		c.rounds(200)
		lead := slices.IndexFunc(c.rafts, func(r *raft.Raft) bool {
			return r.Role() == api.Leader && r.Term() == slices.MaxFunc(c.rafts, byTerm).Term()
		})
		if lead < 0 {
			t.Fatalf("seed %d: nobody leads", seed)
		}
		o, i, ok := c.rafts[lead].Propose(api.Cmd, []byte("end"))
		c.took(lead, o)
		c.rounds(20)
		for _, n := range c.rafts[lead].Conf() {
			if !ok || c.at[n] != i || string(c.had[i].Data) != "end" || c.rafts[n].Lead() != lead {
				t.Errorf("seed %d: member %d is at %d, not %d", seed, n, c.at[n], i)
			}
		}
	}
}

// rounds: so often time goes by for all, and all words arrive.
func (c *crowd) rounds(n int) {
	for range n {
		for i := range c.rafts {
			c.took(i, c.rafts[i].Tick())
		}
		for range len(c.under) {
			c.arrive(0)
		}
	}
}

func byTerm(a, b *raft.Raft) int {
	return a.Term() - b.Term()
}
