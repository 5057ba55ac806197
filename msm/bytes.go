package msm

import (
	"bytes"

	"memento/api"
	"memento/pack"
	"memento/parts"
)

// within tells whether each of l is from 0 to most.
func within(most int, l ...int) bool {
	for _, n := range l {
		if n < 0 || n > most {
			return false
		}
	}
	return true
}

// CmdRight: may there be such a call?
func CmdRight(c api.VolCmd) bool {
	if c.Kind < api.Create || c.Kind > api.Stat || !within(api.MaxVols-1, c.Vol) {
		return false
	}
	if !within(api.MaxTime, c.Blocks, c.Size, c.Per, c.Total, c.Index, int(c.At)) {
		return false
	}
	if len(c.Place) > api.MaxBlocks || !within(api.MaxGroups-1, c.Place...) || len(c.Items) > api.MaxItems {
		return false
	}
	for _, x := range c.Items {
		if !within(api.MaxBlocks-1, x.Block) || len(x.Data) > api.MaxSize {
			return false
		}
	}
	return true
}

// counted: how many of l there are, then each.
func counted[N int | int64](l []N) []byte {
	return pack.Join(parts.Nums(len(l)), parts.Nums(l...))
}

// putItems: how many of l there are, then each.
func putItems(l []api.Item) []byte {
	b := parts.Nums(len(l))
	for _, x := range l {
		b = append(b, pack.Join(parts.Nums(x.Block), pack.Lump(x.Data))...)
	}
	return b
}

// PutCmd: c as bytes.
func PutCmd(c api.VolCmd) ([]byte, api.Errno) {
	if !CmdRight(c) {
		return nil, api.ErrForm
	}
	head := parts.Nums(c.Kind, c.Vol, c.Blocks, c.Size, c.Per, c.Total, int(c.At), c.Index)
	return pack.Join(head, counted(c.Place), putItems(c.Items)), api.OK
}

// put: v as bytes.
func put(v api.Volume) []byte {
	hidden := 0
	if v.Hidden {
		hidden = 1
	}
	b := pack.Join(
		parts.Nums(v.Id, v.Blocks, v.Size, v.Per), counted(v.Place),
		parts.Nums(v.Total, v.Next, hidden, int(v.Floor)), counted(v.Pins), parts.Nums(len(v.Writes)),
	)
	for _, w := range v.Writes {
		b = append(b, putItems(w.Items)...)
	}
	return b
}

// num: the number up to MaxTime that r has next.
func num(r *pack.Reader) int {
	return int(r.Num(api.MaxTime))
}

// list: the list that r has next, each of it read by one; it ends at the first error, however many there are said to be.
func list[T any](r *pack.Reader, one func(*pack.Reader) T) []T {
	var l []T
	for range r.Num(api.MaxTime) {
		x := one(r)
		if r.Err() != api.OK {
			break
		}
		l = append(l, x)
	}
	return l
}

func readItem(r *pack.Reader) api.Item {
	return api.Item{Block: num(r), Data: r.Lump(api.MaxSize)}
}

func readItems(r *pack.Reader) []api.Item {
	return list(r, readItem)
}

func readTime(r *pack.Reader) int64 {
	return int64(num(r))
}

// ReadCmd: the call that b is.
func ReadCmd(b []byte) (api.VolCmd, api.Errno) {
	r := pack.New(b)
	c := api.VolCmd{Kind: num(r), Vol: num(r), Blocks: num(r), Size: num(r), Per: num(r), Total: num(r), At: readTime(r), Index: num(r)}
	c.Place, c.Items = list(r, num), readItems(r)
	if r.Err() != api.OK {
		return api.VolCmd{}, api.ErrBytes
	}
	if back, e := PutCmd(c); e != api.OK || !bytes.Equal(back, b) {
		return api.VolCmd{}, api.ErrBytes
	}
	return c, api.OK
}

// take: the volume that r has next, right or not.
func take(r *pack.Reader) api.Volume {
	v := api.Volume{Id: num(r), Blocks: num(r), Size: num(r), Per: num(r), Place: list(r, num)}
	v.Total, v.Next, v.Hidden = num(r), num(r), r.Num(1) == 1
	v.Floor, v.Pins = readTime(r), list(r, readTime)
	for i, l := range list(r, readItems) {
		v.Writes = append(v.Writes, api.Write{Seq: int64(i) + 1, Items: l})
	}
	return v
}
