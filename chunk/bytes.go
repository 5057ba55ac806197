package chunk

import (
	"bytes"

	"memento/api"
	"memento/pack"
	"memento/parts"
)

// PushRight: may there be such a push?
func PushRight(p api.PushCmd) bool {
	if !pushShape(p).right() || !within(p.To, 0, api.MaxTime) || !within(p.From, 0, p.To) || !within(p.Floor, 0, p.To) || len(p.Writes) > api.Push {
		return false
	}
	last := p.From
	for _, w := range p.Writes {
		if w.Seq <= last || w.Seq > p.To || !parts.ItemsRight(p.Count, p.Size, w.Items) {
			return false
		}
		last = w.Seq
	}
	return true
}

// PutPush: p as bytes.
func PutPush(p api.PushCmd) ([]byte, api.Errno) {
	if !PushRight(p) {
		return nil, api.ErrForm
	}
	b := pack.Join(parts.Nums(p.Vol, p.Chunk, p.Count, p.Size), parts.Nums(p.From, p.To, p.Floor), parts.Nums(len(p.Writes)))
	for _, w := range p.Writes {
		b = append(b, pack.Join(parts.Nums(w.Seq), parts.Nums(len(w.Items)))...)
		for _, x := range w.Items {
			b = append(b, pack.Join(parts.Nums(x.Block), pack.Lump(x.Data))...)
		}
	}
	return b, api.OK
}

// time: the time that r has next.
func time(r *pack.Reader) int64 {
	return int64(r.Num(api.MaxTime))
}

// readShape: the shape that r has next, right or not.
func readShape(r *pack.Reader) shape {
	return shape{
		vol:   int(r.Num(api.MaxVols - 1)),
		chunk: int(r.Num(api.MaxBlocks - 1)),
		count: int(r.Num(api.MaxBlocks)),
		size:  int(r.Num(api.MaxSize)),
	}
}

// ReadPush: the push that b is.
func ReadPush(b []byte) (api.PushCmd, api.Errno) {
	r := pack.New(b)
	s := readShape(r)
	p := api.PushCmd{Vol: s.vol, Chunk: s.chunk, Count: s.count, Size: s.size}
	p.From, p.To, p.Floor = time(r), time(r), time(r)
	for range r.Num(api.Push) {
		w := api.Write{Seq: time(r)}
		for range r.Num(api.MaxItems) {
			w.Items = append(w.Items, api.Item{Block: int(r.Num(api.MaxBlocks - 1)), Data: r.Lump(api.MaxSize)})
		}
		p.Writes = append(p.Writes, w)
	}
	if r.Err() != api.OK || r.Left() != 0 {
		return api.PushCmd{}, api.ErrBytes
	}
	if back, e := PutPush(p); e != api.OK || !bytes.Equal(back, b) {
		return api.PushCmd{}, api.ErrBytes
	}
	return p, api.OK
}

// Put: c as bytes.
func Put(c api.Chunk) []byte {
	b := pack.Join(parts.Nums(c.Vol, c.Chunk, c.Count, c.Size), parts.Nums(c.Mark, c.Floor))
	for _, l := range c.Hist {
		b = append(b, parts.Nums(len(l))...)
		for _, v := range l {
			b = append(b, pack.Join(parts.Nums(v.Seq), pack.Lump(v.Data))...)
		}
	}
	return b
}

// Take: the chunk that r has next.
func Take(r *pack.Reader) (api.Chunk, bool) {
	if r == nil {
		return api.Chunk{}, false
	}
	s := readShape(r)
	c := api.Chunk{Vol: s.vol, Chunk: s.chunk, Count: s.count, Size: s.size, Mark: time(r), Floor: time(r)}
	for range c.Count {
		c.Hist = append(c.Hist, takeHist(r))
	}
	if r.Err() != api.OK || !Right(c) {
		return api.Chunk{}, false
	}
	return c, true
}

// takeHist: the versions that r has next; it ends at the first error, however many there are said to be.
func takeHist(r *pack.Reader) []api.Version {
	var l []api.Version
	for range r.Num(api.MaxTime) {
		v := api.Version{Seq: time(r), Data: r.Lump(api.MaxSize)}
		if r.Err() != api.OK {
			break
		}
		l = append(l, v)
	}
	return l
}
