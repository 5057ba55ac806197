// Package parts: what several layers do with the types of package api: copies that share no memory with what they are copies of, and comparisons. It is no layer.
package parts

import (
	"bytes"
	"slices"

	"memento/api"
	"memento/pack"
)

// List: a copy of l, each of it copied by one.
func List[T any](l []T, one func(T) T) []T {
	all := slices.Grow([]T(nil), len(l))
	for _, x := range l {
		all = append(all, one(x))
	}
	return all
}

// Plain: a copy of l, whose items have no memory of their own.
func Plain[T any](l []T) []T {
	return append([]T(nil), l...)
}

// Nums: numbers from 0 on as pack.Put has them.
func Nums[N int | int64](l ...N) []byte {
	var b []byte
	for _, n := range l {
		b = append(b, pack.Put(uint64(n))...)
	}
	return b
}

// Entry: a copy.
func Entry(e api.Entry) api.Entry {
	e.Data = Plain(e.Data)
	return e
}

// Base: a copy.
func Base(b api.Base) api.Base {
	b.Conf, b.Data = Plain(b.Conf), Plain(b.Data)
	return b
}

// Entries: a copy.
func Entries(l []api.Entry) []api.Entry {
	return List(l, Entry)
}

// Image: a copy.
func Image(m api.Image) api.Image {
	m.Base, m.Log = Base(m.Base), Entries(m.Log)
	return m
}

// Version: a copy.
func Version(v api.Version) api.Version {
	v.Data = Plain(v.Data)
	return v
}

// Versions: a copy.
func Versions(l []api.Version) []api.Version {
	return List(l, Version)
}

// Chunk: a copy.
func Chunk(c api.Chunk) api.Chunk {
	c.Hist = List(c.Hist, Versions)
	return c
}

// Item: a copy.
func Item(x api.Item) api.Item {
	x.Data = Plain(x.Data)
	return x
}

// Items: a copy.
func Items(l []api.Item) []api.Item {
	return List(l, Item)
}

// SameItems: are a and b alike?
func SameItems(a, b []api.Item) bool {
	return slices.EqualFunc(a, b, func(x, y api.Item) bool { return x.Block == y.Block && bytes.Equal(x.Data, y.Data) })
}

// SameWrites: are a and b alike?
func SameWrites(a, b []api.Write) bool {
	return slices.EqualFunc(a, b, func(x, y api.Write) bool { return x.Seq == y.Seq && SameItems(x.Items, y.Items) })
}

// ItemsRight: are l 1 to MaxItems items of unlike blocks from 0 on, below blocks, with size bytes each?
func ItemsRight(blocks, size int, l []api.Item) bool {
	for i, x := range l {
		if x.Block < 0 || x.Block >= blocks || len(x.Data) != size {
			return false
		}
		if slices.ContainsFunc(l[:i], func(y api.Item) bool { return y.Block == x.Block }) {
			return false
		}
	}
	return len(l) >= 1 && len(l) <= api.MaxItems
}

// Write: a copy.
func Write(w api.Write) api.Write {
	w.Items = Items(w.Items)
	return w
}

// Volume: a copy.
func Volume(v api.Volume) api.Volume {
	v.Place, v.Pins, v.Writes = Plain(v.Place), Plain(v.Pins), List(v.Writes, Write)
	return v
}

// Stream: a copy.
func Stream(s api.Stream) api.Stream {
	s.Items = Items(s.Items)
	return s
}
