package grip_test

import (
	"testing"

	"grip/api"
)

// P9: all pairs of handles of objects of all kinds, among them some that hold
// the same.
func TestP9Same(t *testing.T) {
	h := newHeap(t, 100)
	h.Array(0)
	h.Array(0)
	h.Bytes("")
	h.Bytes("")
	h.Table(0)
	h.Table(0)
	h.Array(6)
	objects := []int{0, 1, 2, 3, 4, 5, 6}
	for i := 0; i < 6; i++ {
		h.Set(6, i, obj(5-i))
	}
	for i := 0; i < 6; i++ {
		checkValue(t, "P7: Get", obj(7+i), api.OK)(h.Get(6, i))
		objects = append(objects, 5-i)
	}
	for x := range objects {
		for y := range objects {
			checkSame(t, "P9: Same", objects[x] == objects[y], api.OK)(h.Same(x, y))
		}
	}
}

// P9: what an object holds is no matter, nor how it came to hold it.
func TestP9SameContentsAreTwo(t *testing.T) {
	h := newHeap(t, 100)
	h.Array(1)
	h.Array(1)
	h.Set(0, 0, obj(0))
	h.Set(1, 0, obj(0))
	checkSame(t, "P9: two arrays that hold the same", false, api.OK)(h.Same(0, 1))
	checkValue(t, "P7: Get", obj(2), api.OK)(h.Get(1, 0))
	checkSame(t, "P9: what both hold", true, api.OK)(h.Same(0, 2))
	checkSame(t, "P9: an array and what it holds", false, api.OK)(h.Same(1, 2))
}

func TestP9WrongInputs(t *testing.T) {
	h := newHeap(t, 100)
	h.Array(1)
	h.Bytes("b")
	for _, n := range noHandles {
		checkUnchanged(t, h, "no handle", func() {
			checkSame(t, "P9: the first is no handle", false, api.ErrStale)(h.Same(n, 0))
			checkSame(t, "P9: the second is no handle", false, api.ErrStale)(h.Same(0, n))
			checkSame(t, "P9: both are no handles", false, api.ErrStale)(h.Same(n, n))
		})
	}
}
