package raft

import (
	"memento/api"
	"memento/conf"
	"memento/elect"
	"memento/parts"
)

// Recv: a message arrives.
func (r *Raft) Recv(m api.Msg) Out {
	if m.Group != r.group || m.To != r.id || m.From == r.id {
		return Out{}
	}
	if on := r.handler(m.Kind); on != nil {
		on(m)
	}
	return r.taken()
}

// handler: what is done with messages of that kind; nothing of other layers' kinds.
func (r *Raft) handler(kind int) func(api.Msg) {
	switch kind {
	case api.PreVote:
		return r.onPreVote
	case api.PreOk:
		return r.onPreOk
	case api.Vote:
		return r.ofTerm(r.onVote, api.VoteOk)
	case api.VoteOk:
		return r.ofTerm(r.onVoteOk, 0)
	case api.Append:
		return r.ofTerm(r.onAppend, api.AppendOk)
	case api.AppendOk:
		return r.ofTerm(r.onAppendOk, 0)
	case api.Install:
		return r.ofTerm(r.onInstall, api.AppendOk)
	}
	return nil
}

// ofTerm: on, done with messages of this term alone: a greater one becomes this one, of a lesser one the sender is told of this one by a message of kind no (0: it isn't told).
func (r *Raft) ofTerm(on func(api.Msg), no int) func(api.Msg) {
	return func(m api.Msg) {
		if m.Term > r.hard.Term {
			r.down(m.Term)
		}
		if m.Term == r.hard.Term {
			on(m)
		} else if no != 0 {
			r.reply(m, no, false, 0)
		}
	}
}

// reply: an answer of this term to m's sender.
func (r *Raft) reply(m api.Msg, kind int, ok bool, index int) {
	r.send(m.From, api.Msg{Kind: kind, Term: r.hard.Term, Ok: ok, Index: index})
}

// down: it is in that term, and knows nothing of it yet.
func (r *Raft) down(term int) {
	r.role, r.lead = api.Follower, nobody
	r.hard = api.Hard{Term: term, Vote: nobody}
	r.saveHard()
}

// newer tells whether the log that m speaks of is no older than this one.
func (r *Raft) newer(m api.Msg) bool {
	last := r.log.Last()
	return elect.Newer(m.LogTerm, m.Index, r.log.Term(last), last)
}

func (r *Raft) onPreVote(m api.Msg) {
	led := r.role == api.Leader || r.lead >= 0 && r.silence < api.Wait
	if m.Term > r.hard.Term && r.newer(m) && !led {
		r.send(m.From, api.Msg{Kind: api.PreOk, Term: m.Term, Ok: true})
		return
	}
	r.reply(m, api.PreOk, false, 0)
}

func (r *Raft) onPreOk(m api.Msg) {
	if !m.Ok {
		if m.Term > r.hard.Term {
			r.down(m.Term)
		}
		return
	}
	if r.role != api.Asking || m.Term != r.hard.Term+1 {
		return
	}
	r.yes = conf.With(r.yes, m.From)
	if r.favoured() {
		r.stand()
	}
}

func (r *Raft) onVote(m api.Msg) {
	free := r.hard.Vote < 0 || r.hard.Vote == m.From
	if !free || !r.newer(m) {
		r.reply(m, api.VoteOk, false, 0)
		return
	}
	if r.hard.Vote != m.From {
		r.hard.Vote = m.From
		r.saveHard()
	}
	r.silence = 0
	r.reply(m, api.VoteOk, true, 0)
}

func (r *Raft) onVoteOk(m api.Msg) {
	if !m.Ok || r.role != api.Candidate {
		return
	}
	r.yes = conf.With(r.yes, m.From)
	if r.favoured() {
		r.win()
	}
}

// heed: n leads this term.
func (r *Raft) heed(n int) {
	r.role, r.lead, r.silence = api.Follower, n, 0
}

func (r *Raft) onAppend(m api.Msg) {
	r.heed(m.From)
	told, last, ok := r.log.Follow(m.Index, m.LogTerm, m.Entries)
	if !ok {
		r.reply(m, api.AppendOk, false, min(r.log.Last(), m.Index-1))
		return
	}
	for _, e := range told {
		r.save(api.Rec{Kind: api.RecEntry, Entry: e})
	}
	r.commit = max(r.commit, min(m.Commit, last))
	r.reply(m, api.AppendOk, true, last)
}

func (r *Raft) onInstall(m api.Msg) {
	r.heed(m.From)
	i := m.Base.Index
	if i <= r.commit {
		r.reply(m, api.AppendOk, true, r.commit)
		return
	}
	if i > r.log.Last() || r.log.Term(i) != m.Base.Term {
		r.log.Reset(m.Base)
		r.save(api.Rec{Kind: api.RecBase, Base: parts.Base(m.Base)})
		r.applied, r.out.Restore = i, true
	}
	r.commit = i
	r.reply(m, api.AppendOk, true, i)
}

func (r *Raft) onAppendOk(m api.Msg) {
	n := m.From
	if r.role != api.Leader || !conf.Has(r.others(), n) {
		return
	}
	if !m.Ok {
		r.next[n] = max(min(r.next[n]-1, m.Index+1), 1)
		r.word(n)
		return
	}
	more := m.Index > r.match[n]
	r.match[n] = max(r.match[n], m.Index)
	r.next[n] = r.match[n] + 1
	if !more {
		return
	}
	r.count()
	if r.next[n] <= r.log.Last() {
		r.word(n)
	}
}
