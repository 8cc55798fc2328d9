package grip

import (
	"grip/api"
	"grip/memory"
)

// isValue tells whether v has one of the three kinds of values.
func isValue(v api.Value) bool {
	return v.Kind == api.Nil || v.Kind == api.Int || v.Kind == api.Obj
}

// isKey tells whether k may be a key: nothing may not.
func isKey(k api.Value) bool {
	return k.Kind == api.Int || k.Kind == api.Obj
}

// inward turns a value that the caller tells into one that can stand in the
// words; false if it has a handle that is not live.
func (h *Heap) inward(v api.Value) (memory.Value, bool) {
	if v.Kind == api.Nil {
		return memory.Value{}, true
	}
	if v.Kind == api.Int {
		return memory.Value{Kind: api.Int, N: v.N}, true
	}
	place, live := h.slots.Place(v.N)
	if !live {
		return memory.Value{}, false
	}
	return memory.Value{Kind: api.Obj, N: place}, true
}

// outward turns a value that stands in the words into one that the caller may
// hold: an object is told by a new handle, so this comes last in a call.
func (h *Heap) outward(v memory.Value) (api.Value, api.Errno) {
	if v.Kind != api.Obj {
		return api.Value{Kind: v.Kind, N: v.N}, api.OK
	}
	innermost := h.slots.Innermost()
	x, e := h.newHandle(v.N, innermost)
	if e != api.OK {
		return api.Value{}, e
	}
	return api.Value{Kind: api.Obj, N: x}, api.OK
}
