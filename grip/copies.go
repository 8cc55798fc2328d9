package grip

import "grip/api"

// Join makes a string of two (P14). y is looked for first, because its
// ErrStale goes ahead of the ErrKind of x (P1). The bytes are read ahead of the
// collecting that Bytes may do: they are the same then.
func (h *Heap) Join(x int, y int) (int, api.Errno) {
	_, e := h.find(y)
	if e != api.OK {
		return 0, e
	}
	first, e := h.Text(x)
	if e != api.OK {
		return 0, e
	}
	second, e := h.Text(y)
	if e != api.OK {
		return 0, e
	}
	return h.Bytes(first + second)
}

// Copy makes an object like another (P14). The first object is looked for
// again behind add, which may have moved it.
func (h *Heap) Copy(x int) (int, api.Errno) {
	from, e := h.find(x)
	if e != api.OK {
		return 0, e
	}
	kind := h.memory.Kind(from)
	size := h.memory.Size(from)
	y, e := h.add(kind, size, size)
	if e != api.OK {
		return 0, e
	}
	from, e = h.find(x)
	if e != api.OK {
		return 0, e
	}
	to, e := h.find(y)
	if e != api.OK {
		return 0, e
	}
	h.memory.Copy(from, to)
	return y, api.OK
}
