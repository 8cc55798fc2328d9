package grip

import (
	"grip/api"
	"grip/memory"
)

// findTable is findKind for calls that are for tables and take a key: it tells
// the table's place, and the key as it stands in the words.
func (h *Heap) findTable(x int, k api.Value) (int, memory.Value, api.Errno) {
	if h.poisoned {
		return 0, memory.Value{}, api.ErrPoisoned
	}
	if !isKey(k) {
		return 0, memory.Value{}, api.ErrValue
	}
	key, live := h.inward(k)
	if !live {
		return 0, memory.Value{}, api.ErrStale
	}
	place, e := h.findKind(x, api.Table)
	if e != api.OK {
		return 0, memory.Value{}, e
	}
	return place, key, api.OK
}

// Find reads a table (P8).
func (h *Heap) Find(x int, k api.Value) (api.Value, api.Errno) {
	place, key, e := h.findTable(x, k)
	if e != api.OK {
		return api.Value{}, e
	}
	v, there := h.memory.Find(place, key)
	if !there {
		return api.Value{}, api.ErrNone
	}
	return h.outward(v)
}

// Put changes a table (P8). The key is looked at here too, ahead of
// findTable, because its ErrValue goes ahead of the value's ErrStale (P1).
func (h *Heap) Put(x int, k api.Value, v api.Value) api.Errno {
	if h.poisoned {
		return api.ErrPoisoned
	}
	if !isKey(k) || !isValue(v) {
		return api.ErrValue
	}
	value, live := h.inward(v)
	if !live {
		return api.ErrStale
	}
	place, key, e := h.findTable(x, k)
	if e != api.OK {
		return e
	}
	room := h.memory.Put(place, key, value)
	if !room {
		return api.ErrFull
	}
	return api.OK
}

// Cut takes a key out of a table (P8).
func (h *Heap) Cut(x int, k api.Value) api.Errno {
	place, key, e := h.findTable(x, k)
	if e != api.OK {
		return e
	}
	there := h.memory.Cut(place, key)
	if !there {
		return api.ErrNone
	}
	return api.OK
}

// Key tells a table's i-th key (P8).
func (h *Heap) Key(x int, i int) (api.Value, api.Errno) {
	place, e := h.findKind(x, api.Table)
	if e != api.OK {
		return api.Value{}, e
	}
	k, there := h.memory.Key(place, i)
	if !there {
		return api.Value{}, api.ErrIndex
	}
	return h.outward(k)
}
