// Package grip: a heap whose objects move, held by handles: see DOC.md.
package grip

import (
	"grip/api"
	"grip/memory"
	"grip/slots"
)

// Heap is a heap with its handles and scopes.
type Heap struct {
	poisoned bool
	memory   memory.Memory
	slots    slots.Slots
	flags    []bool
	next     int // the number of the flag for the next object
}

// New makes a heap (P3).
func New(limit int, flags []bool) (*Heap, api.Errno) {
	if limit < 1 || limit > api.MaxWords || len(flags) > api.MaxFlags {
		return nil, api.ErrLimit
	}
	kept := append([]bool{}, flags...)
	return &Heap{memory: memory.New(limit), flags: kept}, api.OK
}

// add makes an object whose contents are noughts, with a size of at most most,
// and a handle of it. All calls that make an object come here, so that their
// errors go in one order (P1).
func (h *Heap) add(kind int, size int, most int) (int, api.Errno) {
	if h.poisoned {
		return 0, api.ErrPoisoned
	}
	if size < 0 || size > most {
		return 0, api.ErrSize
	}
	if h.slots.Full() {
		return 0, api.ErrHandles
	}
	place, fits := h.take(kind, size)
	if !fits {
		h.poisoned = true
		return 0, api.ErrMemory
	}
	innermost := h.slots.Innermost()
	return h.newHandle(place, innermost)
}

// find tells the place of the object of x, or the first errors of all calls
// that take a handle (P1).
func (h *Heap) find(x int) (int, api.Errno) {
	if h.poisoned {
		return 0, api.ErrPoisoned
	}
	place, live := h.slots.Place(x)
	if !live {
		return 0, api.ErrStale
	}
	return place, api.OK
}

// findKind is find for calls that are for objects of one kind.
func (h *Heap) findKind(x int, kind int) (int, api.Errno) {
	place, e := h.find(x)
	if e != api.OK {
		return 0, e
	}
	if h.memory.Kind(place) != kind {
		return 0, api.ErrKind
	}
	return place, api.OK
}

// Array makes an array (P4).
func (h *Heap) Array(n int) (int, api.Errno) {
	return h.add(api.Array, n, api.MaxArray)
}

// Bytes makes a string of bytes (P4).
func (h *Heap) Bytes(s string) (int, api.Errno) {
	x, e := h.add(api.Bytes, len(s), api.MaxBytes)
	if e != api.OK {
		return 0, e
	}
	place, e := h.find(x)
	if e != api.OK {
		return 0, e
	}
	h.memory.Fill(place, s)
	return x, api.OK
}

// Table makes a table (P4).
func (h *Heap) Table(n int) (int, api.Errno) {
	return h.add(api.Table, n, api.MaxTable)
}

// Kind tells an object's kind (P5).
func (h *Heap) Kind(x int) (int, api.Errno) {
	place, e := h.find(x)
	if e != api.OK {
		return 0, e
	}
	return h.memory.Kind(place), api.OK
}

// Len tells how much an object holds (P5).
func (h *Heap) Len(x int) (int, api.Errno) {
	place, e := h.find(x)
	if e != api.OK {
		return 0, e
	}
	return h.memory.Len(place), api.OK
}

// Text tells a string's bytes (P5).
func (h *Heap) Text(x int) (string, api.Errno) {
	place, e := h.findKind(x, api.Bytes)
	if e != api.OK {
		return "", e
	}
	return h.memory.Text(place), api.OK
}

// Place tells where an object lies (P6).
func (h *Heap) Place(x int) (int, api.Errno) {
	return h.find(x)
}

// Words tells all words that are in use (P6).
func (h *Heap) Words() ([]int, api.Errno) {
	if h.poisoned {
		return nil, api.ErrPoisoned
	}
	return h.memory.Words(), api.OK
}

// Same tells whether two handles have one object (P9). No two objects lie at
// one place, so the place tells the object.
func (h *Heap) Same(x int, y int) (bool, api.Errno) {
	place, e := h.find(x)
	if e != api.OK {
		return false, e
	}
	other, e := h.find(y)
	if e != api.OK {
		return false, e
	}
	return place == other, api.OK
}
