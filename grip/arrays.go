package grip

import "grip/api"

// Get reads an element of an array (P7).
func (h *Heap) Get(x int, i int) (api.Value, api.Errno) {
	place, e := h.findKind(x, api.Array)
	if e != api.OK {
		return api.Value{}, e
	}
	v, there := h.memory.Get(place, i)
	if !there {
		return api.Value{}, api.ErrIndex
	}
	return h.outward(v)
}

// Set changes an element of an array (P7).
func (h *Heap) Set(x int, i int, v api.Value) api.Errno {
	if h.poisoned {
		return api.ErrPoisoned
	}
	if !isValue(v) {
		return api.ErrValue
	}
	value, live := h.inward(v)
	if !live {
		return api.ErrStale
	}
	place, e := h.findKind(x, api.Array)
	if e != api.OK {
		return e
	}
	there := h.memory.Set(place, i, value)
	if !there {
		return api.ErrIndex
	}
	return api.OK
}
