// Package parts: what several layers do with the types of package api: copies that share no memory with what they are copies of, and comparisons. It is no layer.
package parts

import (
	"memento/api"
	"memento/pack"
)

// List: a copy of l, each of it copied by one.
func List[T any](l []T, one func(T) T) []T {
	var all []T
	for _, x := range l {
		all = append(all, one(x))
	}
	return all
}

// Plain: a copy of l, whose items have no memory of their own.
func Plain[T any](l []T) []T {
	return append([]T(nil), l...)
}

// Nums: numbers from 0 on as pack.Put has them.
func Nums(l ...int) []byte {
	var b []byte
	for _, n := range l {
		b = append(b, pack.Put(uint64(n))...)
	}
	return b
}

// Entry: a copy.
func Entry(e api.Entry) api.Entry {
	e.Data = Plain(e.Data)
	return e
}

// Base: a copy.
func Base(b api.Base) api.Base {
	b.Conf, b.Data = Plain(b.Conf), Plain(b.Data)
	return b
}

// Entries: a copy.
func Entries(l []api.Entry) []api.Entry {
	return List(l, Entry)
}

// Image: a copy.
func Image(m api.Image) api.Image {
	m.Base, m.Log = Base(m.Base), Entries(m.Log)
	return m
}
