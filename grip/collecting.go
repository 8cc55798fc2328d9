package grip

import "grip/api"

// Collect moves what can be reached together (P12).
func (h *Heap) Collect() api.Errno {
	if h.poisoned {
		return api.ErrPoisoned
	}
	h.collect()
	return api.OK
}

// collect is Collect on a heap that has not run out. It changes places, so a
// place that was found ahead of it is good no more.
func (h *Heap) collect() {
	roots := h.slots.Places()
	places := h.memory.Collect(roots)
	h.slots.Move(places)
}

// nextFlag tells the flag for an object that is to take words. Flags come
// round again, so their number is kept and not how many objects there were.
func (h *Heap) nextFlag() bool {
	if h.next < 0 || h.next >= len(h.flags) {
		return false
	}
	flag := h.flags[h.next]
	h.next++
	if h.next == len(h.flags) {
		h.next = 0
	}
	return flag
}

// take takes the words of a new object, and tells its place; false if not even
// collecting makes room (P13).
func (h *Heap) take(kind int, size int) (int, bool) {
	flag := h.nextFlag()
	if flag {
		h.collect()
	}
	place, fits := h.memory.Add(kind, size)
	if fits {
		return place, true
	}
	h.collect()
	return h.memory.Add(kind, size)
}
