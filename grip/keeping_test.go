package grip_test

import (
	"testing"

	"grip/api"
	"grip/grip"
)

// P11: Escape's handle belongs to the scope around the innermost: the Close of
// the innermost leaves it, the next one ends it.
func TestP11Escape(t *testing.T) {
	h := newHeap(t, 100)
	h.Open()
	h.Open()
	h.Open()
	h.Bytes("out")
	checkNumber(t, "P11: Escape", 1, api.OK)(h.Escape(0))
	checkSame(t, "P9: Same", true, api.OK)(h.Same(0, 1))
	checkError(t, "P10: Close(3)", api.OK, h.Close(3))
	checkEnded(t, h, 0)
	checkText(t, "P5: Text", "out", api.OK)(h.Text(1))
	checkNumber(t, "P11: Escape of what escaped", 32, api.OK)(h.Escape(1))
	checkError(t, "P10: Close(2)", api.OK, h.Close(2))
	checkEnded(t, h, 0, 1)
	checkText(t, "P5: Text", "out", api.OK)(h.Text(32))
	checkError(t, "P10: Close(1)", api.OK, h.Close(1))
	checkEnded(t, h, 0, 1, 32)
}

// P11: with scope 1 innermost the handle is scope 0's, which is never closed.
func TestP11EscapeToScope0(t *testing.T) {
	h := newHeap(t, 100)
	h.Open()
	h.Array(2)
	checkNumber(t, "P11: Escape", 1, api.OK)(h.Escape(0))
	checkError(t, "P11: Release: it is not kept", api.ErrScope, h.Release(1))
	h.Close(1)
	checkEnded(t, h, 0)
	checkNumber(t, "P5: Len", 2, api.OK)(h.Len(1))
	for round := 0; round < 3; round++ {
		h.Open()
		h.Open()
		h.Close(2)
		h.Close(1)
		checkLive(t, h, 1)
	}
	checkNumber(t, "P11: Escape from scope 0", 0, api.ErrScope)(h.Escape(1))
}

// P11: it is the innermost scope that tells, not the scope of the handle that
// is given: the new handle of what scope 0 holds may belong to a scope further
// in, and that of what is kept is not kept.
func TestP11EscapeOfHandlesFromElsewhere(t *testing.T) {
	h := newHeap(t, 100)
	h.Array(0)
	h.Open()
	h.Array(1)
	h.Keep(1)
	h.Open()
	h.Open()
	checkNumber(t, "P11: Escape of one of scope 0", 3, api.OK)(h.Escape(0))
	checkNumber(t, "P11: Escape of one of scope 1", 4, api.OK)(h.Escape(1))
	checkNumber(t, "P11: Escape of a kept one", 5, api.OK)(h.Escape(2))
	checkError(t, "P11: Release", api.ErrScope, h.Release(5))
	h.Close(3)
	checkLive(t, h, 0, 1, 2, 3, 4, 5)
	checkSame(t, "P9: Same", true, api.OK)(h.Same(0, 3))
	checkSame(t, "P9: Same", true, api.OK)(h.Same(1, 4))
	checkSame(t, "P9: Same", true, api.OK)(h.Same(1, 5))
	h.Close(2)
	checkLive(t, h, 0, 1, 2)
	checkEnded(t, h, 3, 4, 5)
}

// P11: a kept handle, of an object of any kind and wherever it was kept, is
// ended by no Close.
func TestP11Keep(t *testing.T) {
	h := newHeap(t, 100)
	h.Array(3)
	checkNumber(t, "P11: Keep in scope 0", 1, api.OK)(h.Keep(0))
	h.Open()
	h.Bytes("kept")
	checkNumber(t, "P11: Keep in scope 1", 3, api.OK)(h.Keep(2))
	h.Open()
	h.Table(2)
	checkNumber(t, "P11: Keep in scope 2", 5, api.OK)(h.Keep(4))
	checkNumber(t, "P11: Keep of one of scope 1", 6, api.OK)(h.Keep(2))
	checkNumber(t, "P11: Keep of a kept one", 7, api.OK)(h.Keep(1))
	h.Close(2)
	h.Close(1)
	checkEnded(t, h, 2, 4)
	checkNumber(t, "P5: Len", 3, api.OK)(h.Len(1))
	checkText(t, "P5: Text", "kept", api.OK)(h.Text(3))
	checkNumber(t, "P5: Kind", api.Table, api.OK)(h.Kind(5))
	checkSame(t, "P9: Same", true, api.OK)(h.Same(3, 6))
	checkSame(t, "P9: Same", true, api.OK)(h.Same(0, 7))
	for n := 1; n <= api.MaxScopes; n++ {
		h.Open()
	}
	for n := api.MaxScopes; n >= 1; n-- {
		h.Close(n)
		checkLive(t, h, 0, 1, 3, 5, 6, 7)
	}
}

// P11: each kept handle is released for itself, in any scope, and once.
func TestP11Release(t *testing.T) {
	h := newHeap(t, 100)
	h.Bytes("r")
	h.Keep(0)
	h.Keep(1)
	h.Open()
	h.Keep(1)
	checkError(t, "P11: Release", api.OK, h.Release(1))
	checkLive(t, h, 0, 2, 3)
	checkEnded(t, h, 1)
	checkError(t, "P11: Release once more", api.ErrStale, h.Release(1))
	checkNumber(t, "P11: Keep in its slot", 33, api.OK)(h.Keep(2))
	checkError(t, "P11: Release of the old number", api.ErrStale, h.Release(1))
	checkLive(t, h, 33)
	h.Close(1)
	checkLive(t, h, 0, 2, 3, 33)
	checkError(t, "P11: Release", api.OK, h.Release(33))
	checkError(t, "P11: Release", api.OK, h.Release(3))
	checkError(t, "P11: Release", api.OK, h.Release(2))
	checkEnded(t, h, 1, 2, 3, 33)
	checkText(t, "P5: Text", "r", api.OK)(h.Text(0))
	checkWords(t, h, 131073, 'r')
}

// P11: a slot that held a kept handle can hold one of a scope, and the other
// way round.
func TestP11SlotOfAnotherSort(t *testing.T) {
	h := newHeap(t, 100)
	h.Array(0)
	h.Keep(0)
	h.Release(1)
	h.Open()
	checkNumber(t, "P4: Array", 33, api.OK)(h.Array(0))
	checkError(t, "P11: Release of one of a scope", api.ErrScope, h.Release(33))
	h.Close(1)
	checkEnded(t, h, 1, 33)
	checkNumber(t, "P11: Keep", 65, api.OK)(h.Keep(0))
	h.Open()
	h.Close(1)
	checkLive(t, h, 65)
	checkError(t, "P11: Release of a kept one", api.OK, h.Release(65))
	checkNumber(t, "P4: Array in scope 0", 97, api.OK)(h.Array(0))
	checkError(t, "P11: Release of one of scope 0", api.ErrScope, h.Release(97))
}

// P11: Release of handles that are not kept, from each call that makes them
// and in each scope.
func TestP11ReleaseOfOthers(t *testing.T) {
	h := newHeap(t, 100)
	h.Array(1)
	h.Set(0, 0, obj(0))
	h.Open()
	h.Table(1)
	h.Put(1, obj(0), obj(0))
	h.Get(0, 0)
	h.Open()
	h.Find(1, obj(0))
	h.Key(1, 0)
	h.Escape(0)
	h.Bytes("")
	for x := 0; x <= 6; x++ {
		checkUnchanged(t, h, "Release", func() { checkError(t, "P11: Release", api.ErrScope, h.Release(x)) })
	}
	h.Close(2)
	checkLive(t, h, 0, 1, 2, 5)
	checkEnded(t, h, 3, 4, 6)
	h.Close(1)
	checkLive(t, h, 0)
	checkEnded(t, h, 1, 2, 5)
}

// P11, P1: all slots taken: ErrHandles, and no slot is lost by it.
func TestP11AllSlotsTaken(t *testing.T) {
	h := newHeap(t, 100)
	h.Array(0)
	h.Open()
	for x := 1; x < api.MaxHandles; x++ {
		checkNumber(t, "P11: Keep", x, api.OK)(h.Keep(x - 1))
	}
	checkUnchanged(t, h, "a call with all slots taken", func() {
		checkNumber(t, "P11: Keep", 0, api.ErrHandles)(h.Keep(0))
		checkNumber(t, "P11: Keep of a kept one", 0, api.ErrHandles)(h.Keep(31))
		checkNumber(t, "P11: Escape", 0, api.ErrHandles)(h.Escape(0))
		checkNumber(t, "P11: Escape of a kept one", 0, api.ErrHandles)(h.Escape(31))
		checkNumber(t, "P11: Keep of no handle", 0, api.ErrStale)(h.Keep(32))
		checkNumber(t, "P11: Escape of no handle", 0, api.ErrStale)(h.Escape(32))
		checkError(t, "P11: Release of one of scope 0", api.ErrScope, h.Release(0))
	})
	checkError(t, "P11: Release", api.OK, h.Release(31))
	checkNumber(t, "P11: Escape", 63, api.OK)(h.Escape(0))
	checkNumber(t, "P11: Escape", 0, api.ErrHandles)(h.Escape(0))
	h.Close(1)
	checkUnchanged(t, h, "a call with all slots taken", func() {
		checkNumber(t, "P11: Escape: ErrScope goes first", 0, api.ErrScope)(h.Escape(0))
		checkNumber(t, "P11: Escape: ErrStale goes first", 0, api.ErrStale)(h.Escape(31))
	})
	checkError(t, "P11: Release", api.OK, h.Release(7))
	checkNumber(t, "P11: Keep", 39, api.OK)(h.Keep(63))
	checkNumber(t, "P11: Keep", 0, api.ErrHandles)(h.Keep(63))
}

// refusedKeeping makes the three calls with a number that is no handle.
func refusedKeeping(t *testing.T, h *grip.Heap, x int) {
	t.Helper()
	checkUnchanged(t, h, "no handle", func() {
		checkNumber(t, "P11: Escape of no handle", 0, api.ErrStale)(h.Escape(x))
		checkNumber(t, "P11: Keep of no handle", 0, api.ErrStale)(h.Keep(x))
		checkError(t, "P11: Release of no handle", api.ErrStale, h.Release(x))
	})
}

// P11, P1: numbers that are no handle's, with scope 0 innermost, where
// ErrStale goes ahead of ErrScope, and with another.
func TestP11WrongInputs(t *testing.T) {
	h := newHeap(t, 100)
	for _, x := range append([]int{0}, noHandles...) {
		refusedKeeping(t, h, x)
	}
	h.Array(1)
	h.Keep(0)
	h.Open()
	h.Escape(0)
	h.Bytes("b")
	for _, x := range noHandles {
		refusedKeeping(t, h, x)
	}
	h.Close(1)
	for _, x := range append([]int{3}, noHandles...) {
		refusedKeeping(t, h, x)
	}
	checkLive(t, h, 0, 1, 2)
	checkNumber(t, "P11: the next handle", 35, api.OK)(h.Keep(0))
}

// P1: with an error of Escape, Keep or Release no handle changes its scope.
func TestP11RefusedChangesNoScope(t *testing.T) {
	h := newHeap(t, 100)
	h.Array(0)
	h.Keep(0)
	checkNumber(t, "P11: Escape of one of scope 0", 0, api.ErrScope)(h.Escape(0))
	checkNumber(t, "P11: Escape of a kept one", 0, api.ErrScope)(h.Escape(1))
	h.Open()
	h.Array(0)
	checkError(t, "P11: Release of one of scope 1", api.ErrScope, h.Release(2))
	checkError(t, "P11: Release of one of scope 0", api.ErrScope, h.Release(0))
	h.Close(1)
	checkLive(t, h, 0, 1)
	checkEnded(t, h, 2)
	checkError(t, "P11: Release of the kept one", api.OK, h.Release(1))
	checkLive(t, h, 0)
}
