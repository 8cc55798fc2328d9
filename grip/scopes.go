package grip

import (
	"grip/api"
	"grip/slots"
)

// newHandle makes a handle of the object at a place, which belongs to a scope
// or is kept. ErrHandles goes behind all errors but ErrMemory (P1), so this
// comes last in a call.
func (h *Heap) newHandle(place int, scope int) (int, api.Errno) {
	x, made := h.slots.Add(place, scope)
	if !made {
		return 0, api.ErrHandles
	}
	return x, api.OK
}

// Open opens a scope (P10).
func (h *Heap) Open() (int, api.Errno) {
	if h.poisoned {
		return 0, api.ErrPoisoned
	}
	n, opened := h.slots.Open()
	if !opened {
		return 0, api.ErrScope
	}
	return n, api.OK
}

// Close closes a scope (P10).
func (h *Heap) Close(n int) api.Errno {
	if h.poisoned {
		return api.ErrPoisoned
	}
	closed := h.slots.Close(n)
	if !closed {
		return api.ErrScope
	}
	return api.OK
}

// Escape makes a handle in the scope around (P11).
func (h *Heap) Escape(x int) (int, api.Errno) {
	place, e := h.find(x)
	if e != api.OK {
		return 0, e
	}
	innermost := h.slots.Innermost()
	if innermost == 0 {
		return 0, api.ErrScope
	}
	return h.newHandle(place, innermost-1)
}

// Keep makes a handle that belongs to no scope (P11).
func (h *Heap) Keep(x int) (int, api.Errno) {
	place, e := h.find(x)
	if e != api.OK {
		return 0, e
	}
	return h.newHandle(place, slots.Kept)
}

// Release lets such a handle go (P11).
func (h *Heap) Release(x int) api.Errno {
	_, e := h.find(x)
	if e != api.OK {
		return e
	}
	released := h.slots.Release(x)
	if !released {
		return api.ErrScope
	}
	return api.OK
}
