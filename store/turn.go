package store

import (
	"memento/api"
	"memento/parts"
)

// Turn: m as r changes it.
func Turn(m api.Image, r api.Rec) api.Image {
	return parts.Image(turned(m, r))
}

// turned: what Turn tells, sharing memory with m but not with r; m is left as it was.
func turned(m api.Image, r api.Rec) api.Image {
	switch r.Kind {
	case api.RecHard:
		m.Hard = r.Hard
	case api.RecEntry:
		if k := ahead(m, r.Entry.Index); end(m, k)+1 == r.Entry.Index {
			m.Log = append(parts.Plain(m.Log[:k]), parts.Entry(r.Entry))
		}
	case api.RecBase:
		m.Base, m.Log = parts.Base(r.Base), behind(m, r.Base)
	}
	return m
}

// ahead: how many entries of m's Log are ahead of Index i.
func ahead(m api.Image, i int) int {
	for k, e := range m.Log {
		if e.Index >= i {
			return k
		}
	}
	return len(m.Log)
}

// end: the Index that the first k entries of m's Log end with.
func end(m api.Image, k int) int {
	if k == 0 {
		return m.Base.Index
	}
	return m.Log[k-1].Index
}

// behind: the entries of m behind b, if m has what b ends with.
func behind(m api.Image, b api.Base) []api.Entry {
	if m.Base.Index == b.Index && m.Base.Term == b.Term {
		return m.Log[ahead(m, b.Index+1):]
	}
	if k := ahead(m, b.Index); k < len(m.Log) && m.Log[k].Index == b.Index && m.Log[k].Term == b.Term {
		return m.Log[k+1:]
	}
	return nil
}
