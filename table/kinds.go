package table

import (
	"cmp"
	"slices"

	"swingbridge/api"
	"swingbridge/lru"
)

// kind keeps the Data of the keys as tables of one kind do.
type kind interface {
	count() int
	find(key string) (data []byte, is bool) // uses none
	use(key string)
	add(key string, value []byte) api.Errno // of a key that has no entry
	drop(key string) api.Errno
	all() []Entry // in the order of All
}

func newKind(m api.Map) kind {
	switch m.Kind {
	case api.Array:
		return newArray(m)
	case api.Hash:
		return hash{most: m.Max, data: map[string][]byte{}}
	}
	return recent{list: lru.New[string, []byte](m.Max)}
}

// own is a copy that has no room behind its end: what is appended to it is nowhere else.
func own(value []byte) []byte {
	data := make([]byte, len(value))
	copy(data, value)
	return data
}

// array has the Data of all numbers, from the beginning to the end.
type array struct{ data [][]byte }

// numberBytes is how long an Array's keys are.
const numberBytes = 4

func newArray(m api.Map) array {
	a := array{data: make([][]byte, m.Max)}
	for i := range a.data {
		a.data[i] = make([]byte, m.Value)
	}
	return a
}

func (a array) count() int { return len(a.data) }

func (a array) find(key string) ([]byte, bool) {
	if len(key) != numberBytes {
		return nil, false
	}
	n := uint32(key[0]) | uint32(key[1])<<8 | uint32(key[2])<<16 | uint32(key[3])<<24
	if n >= uint32(len(a.data)) {
		return nil, false
	}
	return a.data[n], true
}

func (a array) use(key string) {}

func (a array) add(key string, value []byte) api.Errno { return api.ErrNone }

func (a array) drop(key string) api.Errno { return api.ErrType }

func (a array) all() []Entry {
	var out []Entry
	for n, data := range a.data {
		key := string([]byte{byte(n), byte(n >> 8), byte(n >> 16), byte(n >> 24)})
		out = append(out, Entry{Key: key, Data: data})
	}
	return out
}

// hash has the Data of at most so many keys.
type hash struct {
	most int
	data map[string][]byte
}

func (h hash) count() int { return len(h.data) }

func (h hash) find(key string) ([]byte, bool) {
	data, there := h.data[key]
	return data, there
}

func (h hash) use(key string) {}

func (h hash) add(key string, value []byte) api.Errno {
	if len(h.data) >= h.most {
		return api.ErrFull
	}
	h.data[key] = own(value)
	return api.OK
}

func (h hash) drop(key string) api.Errno {
	if _, there := h.data[key]; !there {
		return api.ErrNone
	}
	delete(h.data, key)
	return api.OK
}

func (h hash) all() []Entry {
	var out []Entry
	for key, data := range h.data {
		out = append(out, Entry{Key: key, Data: data})
	}
	slices.SortFunc(out, func(a, b Entry) int { return cmp.Compare(a.Key, b.Key) })
	return out
}

// recent has the Data of the keys that were used last.
type recent struct{ list *lru.List[string, []byte] }

func (r recent) count() int { return r.list.Len() }

func (r recent) find(key string) ([]byte, bool) { return r.list.Peek(key) }

func (r recent) use(key string) { r.list.Touch(key) }

func (r recent) add(key string, value []byte) api.Errno {
	r.list.Put(key, own(value))
	return api.OK
}

func (r recent) drop(key string) api.Errno {
	if !r.list.Drop(key) {
		return api.ErrNone
	}
	return api.OK
}

func (r recent) all() []Entry {
	var out []Entry
	for key, data := range r.list.All() {
		out = append(out, Entry{Key: key, Data: data})
	}
	return out
}
