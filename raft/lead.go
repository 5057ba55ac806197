package raft

import (
	"memento/api"
	"memento/conf"
	"memento/elect"
)

// Tick: time goes by.
func (r *Raft) Tick() Out {
	if r.role == api.Leader {
		r.beats++
		if r.beats%api.Beat == 0 {
			r.tell()
		}
		return r.taken()
	}
	r.silence++
	if conf.Has(r.members(), r.id) && r.silence >= elect.Timeout(r.id, r.hard.Term) {
		r.silence = 0
		r.ask()
	}
	return r.taken()
}

// favoured tells whether most would vote, voted for it.
func (r *Raft) favoured() bool {
	return conf.Most(r.members(), r.yes)
}

// run: it wants to lead, and says yes itself.
func (r *Raft) run(role int) {
	r.role, r.lead, r.yes = role, nobody, []int{r.id}
}

// canvass: a message of kind to the others, who hold the end of the log against theirs.
func (r *Raft) canvass(kind, term int) {
	last := r.log.Last()
	for _, n := range r.others() {
		r.send(n, api.Msg{Kind: kind, Term: term, Index: last, LogTerm: r.log.Term(last)})
	}
}

// ask: would the others vote for it?
func (r *Raft) ask() {
	r.run(api.Asking)
	if r.favoured() {
		r.stand()
		return
	}
	r.canvass(api.PreVote, r.hard.Term+1)
}

// stand: it asks for the votes of a new term.
func (r *Raft) stand() {
	r.hard = api.Hard{Term: r.hard.Term + 1, Vote: r.id}
	r.saveHard()
	r.run(api.Candidate)
	if r.favoured() {
		r.win()
		return
	}
	r.canvass(api.Vote, r.hard.Term)
}

// win: it leads from now on.
func (r *Raft) win() {
	r.role, r.lead = api.Leader, r.id
	r.begin(r.log.Last())
	r.add(api.Noop, nil)
	r.tell()
}

// count: how far the log is committed, as most have it.
func (r *Raft) count() {
	var match, terms []int
	last := r.log.Last()
	for _, n := range r.members() {
		if n == r.id {
			match = append(match, last)
		} else {
			match = append(match, r.match[n])
		}
	}
	for i := r.commit + 1; i <= last; i++ {
		terms = append(terms, r.log.Term(i))
	}
	r.commit = elect.Commit(r.hard.Term, r.commit, match, terms)
}

// tell: a word to the others.
func (r *Raft) tell() {
	for _, n := range r.others() {
		r.word(n)
	}
}

// word: what n is to know next: entries, or the base, if they are gone.
func (r *Raft) word(n int) {
	next := r.next[n]
	if b := r.log.Base(); next <= b.Index {
		r.send(n, api.Msg{Kind: api.Install, Term: r.hard.Term, Base: b})
		return
	}
	r.send(n, api.Msg{
		Kind:    api.Append,
		Term:    r.hard.Term,
		Index:   next - 1,
		LogTerm: r.log.Term(next - 1),
		Commit:  r.commit,
		Entries: r.log.From(next, api.Batch),
	})
}
