package grip_test

import (
	"strings"
	"testing"

	"grip/api"
	"grip/grip"
)

// P1: nothing panics, and with an error nothing is changed and every other
// result is nought.
func TestP1RefusedChangesNothing(t *testing.T) {
	h := newHeap(t, 100)
	h.Array(3)
	h.Bytes("some text")
	h.Table(2)
	for _, n := range append([]int{-1, -2, 17, 18}, greatNumbers...) {
		checkUnchanged(t, h, "Array", func() { checkNumber(t, "P1: Array", 0, api.ErrSize)(h.Array(n)) })
	}
	for _, n := range append([]int{-1, -2, 9, 10, 16}, greatNumbers...) {
		checkUnchanged(t, h, "Table", func() { checkNumber(t, "P1: Table", 0, api.ErrSize)(h.Table(n)) })
	}
	for _, n := range []int{65, 66, 128, 65536, 1 << 23} {
		s := strings.Repeat("\x01", n)
		checkUnchanged(t, h, "Bytes", func() { checkNumber(t, "P1: Bytes", 0, api.ErrSize)(h.Bytes(s)) })
	}
	for _, x := range append([]int{3, 31, 32, 33, 34, 64, -1, -29, -32}, greatNumbers...) {
		checkUnchanged(t, h, "a number that is no handle", func() { checkStale(t, h, x) })
	}
	checkUnchanged(t, h, "Text", func() { checkText(t, "P1: Text of an array", "", api.ErrKind)(h.Text(0)) })
	// A slot that a refused call had taken would show here.
	checkNumber(t, "P1: the next handle", 3, api.OK)(h.Array(0))
	checkNumber(t, "P1: its place", 20, api.OK)(h.Place(3))
}

// checkStale makes every call that takes a handle with x, as an argument and
// in a Value: ErrStale goes ahead of what else is wrong with them.
func checkStale(t *testing.T, h *grip.Heap, x int) {
	t.Helper()
	checkNumber(t, "P1: Kind of no handle", 0, api.ErrStale)(h.Kind(x))
	checkNumber(t, "P1: Len of no handle", 0, api.ErrStale)(h.Len(x))
	checkNumber(t, "P1: Place of no handle", 0, api.ErrStale)(h.Place(x))
	checkText(t, "P1: Text of no handle", "", api.ErrStale)(h.Text(x))
	checkValue(t, "P1: Get of no handle", none, api.ErrStale)(h.Get(x, 0))
	checkValue(t, "P1: Key of no handle", none, api.ErrStale)(h.Key(x, 0))
	checkError(t, "P1: Set of no handle", api.ErrStale, h.Set(x, 0, num(1)))
	checkError(t, "P1: Set to no handle", api.ErrStale, h.Set(0, 0, obj(x)))
	checkTableCalls(t, h, x, num(1), num(2), api.ErrStale)
	checkTableCalls(t, h, 0, obj(x), num(2), api.ErrStale)
	checkError(t, "P1: Put of no handle", api.ErrStale, h.Put(0, num(1), obj(x)))
	checkSame(t, "P1: Same of no handle", false, api.ErrStale)(h.Same(x, 0))
	checkSame(t, "P1: Same with no handle", false, api.ErrStale)(h.Same(0, x))
	checkNumber(t, "P1: Escape of no handle", 0, api.ErrStale)(h.Escape(x))
	checkNumber(t, "P1: Keep of no handle", 0, api.ErrStale)(h.Keep(x))
	checkError(t, "P1: Release of no handle", api.ErrStale, h.Release(x))
	checkNumber(t, "P1: Join of no handle", 0, api.ErrStale)(h.Join(x, 0))
	checkNumber(t, "P1: Join with no handle", 0, api.ErrStale)(h.Join(0, x))
	checkNumber(t, "P1: Join of no handle with itself", 0, api.ErrStale)(h.Join(x, x))
	checkNumber(t, "P1: Copy of no handle", 0, api.ErrStale)(h.Copy(x))
}

// P1: a number is a handle's only once the handle is made.
func TestP1StaleUntilMade(t *testing.T) {
	h := newHeap(t, 100)
	for x := 0; x < api.MaxHandles; x++ {
		checkStale(t, h, x)
		checkNumber(t, "P1: Array(0)", x, api.OK)(h.Array(0))
		checkNumber(t, "P1: Kind", api.Array, api.OK)(h.Kind(x))
		checkStale(t, h, x+api.MaxHandles)
	}
}

// P1: ErrSize goes ahead of ErrHandles, and that ahead of ErrMemory.
func TestP1OrderOfErrors(t *testing.T) {
	h := newHeap(t, 32)
	for x := 0; x < api.MaxHandles; x++ {
		h.Array(0)
	}
	checkUnchanged(t, h, "a call with all slots taken", func() {
		checkNumber(t, "P1: Array(17)", 0, api.ErrSize)(h.Array(17))
		checkNumber(t, "P1: Array(-1)", 0, api.ErrSize)(h.Array(-1))
		checkNumber(t, "P1: Table(9)", 0, api.ErrSize)(h.Table(9))
		checkNumber(t, "P1: Table(-1)", 0, api.ErrSize)(h.Table(-1))
		checkNumber(t, "P1: Bytes of 65", 0, api.ErrSize)(h.Bytes(strings.Repeat("a", 65)))
		checkNumber(t, "P1: Array(16)", 0, api.ErrHandles)(h.Array(16))
		checkNumber(t, "P1: Array(0)", 0, api.ErrHandles)(h.Array(0))
		checkNumber(t, "P1: Table(8)", 0, api.ErrHandles)(h.Table(8))
		checkNumber(t, "P1: Table(0)", 0, api.ErrHandles)(h.Table(0))
		checkNumber(t, "P1: Bytes of 64", 0, api.ErrHandles)(h.Bytes(strings.Repeat("a", 64)))
		checkNumber(t, "P1: Bytes of none", 0, api.ErrHandles)(h.Bytes(""))
	})
}

// P1: ErrSize goes ahead of ErrMemory.
func TestP1SizeAheadOfMemory(t *testing.T) {
	h := newHeap(t, 1)
	h.Array(0)
	checkNumber(t, "P1: Array(17)", 0, api.ErrSize)(h.Array(17))
	checkNumber(t, "P1: Table(9)", 0, api.ErrSize)(h.Table(9))
	checkNumber(t, "P1: Bytes of 65", 0, api.ErrSize)(h.Bytes(strings.Repeat("a", 65)))
	checkNumber(t, "P1: the heap is good yet", api.Array, api.OK)(h.Kind(0))
}

// P1: ErrPoisoned goes ahead of all others.
func TestP1PoisonedAheadOfAll(t *testing.T) {
	h := newHeap(t, 9)
	checkNumber(t, "Array(4)", 0, api.OK)(h.Array(4))
	h.Open()
	h.Keep(0)
	checkNumber(t, "P13: Array(0) without a word left", 0, api.ErrMemory)(h.Array(0))
	checkPoisoned(t, h)
}

// checkPoisoned makes each of the 23 calls, with good arguments and with such
// as would be refused.
func checkPoisoned(t *testing.T, h *grip.Heap) {
	t.Helper()
	for _, n := range append([]int{-1, 0, 1, 17, 32}, greatNumbers...) {
		checkNumber(t, "P1: Array", 0, api.ErrPoisoned)(h.Array(n))
		checkNumber(t, "P1: Table", 0, api.ErrPoisoned)(h.Table(n))
		checkNumber(t, "P1: Kind", 0, api.ErrPoisoned)(h.Kind(n))
		checkNumber(t, "P1: Len", 0, api.ErrPoisoned)(h.Len(n))
		checkNumber(t, "P1: Place", 0, api.ErrPoisoned)(h.Place(n))
		checkText(t, "P1: Text", "", api.ErrPoisoned)(h.Text(n))
		checkValue(t, "P1: Get", none, api.ErrPoisoned)(h.Get(n, n))
		checkValue(t, "P1: Key", none, api.ErrPoisoned)(h.Key(n, n))
		checkSame(t, "P1: Same", false, api.ErrPoisoned)(h.Same(n, 0))
		checkSame(t, "P1: Same", false, api.ErrPoisoned)(h.Same(0, n))
		checkNumber(t, "P1: Open", 0, api.ErrPoisoned)(h.Open())
		checkError(t, "P1: Close", api.ErrPoisoned, h.Close(n))
		checkNumber(t, "P1: Escape", 0, api.ErrPoisoned)(h.Escape(n))
		checkNumber(t, "P1: Keep", 0, api.ErrPoisoned)(h.Keep(n))
		checkError(t, "P1: Release", api.ErrPoisoned, h.Release(n))
		checkError(t, "P1: Collect", api.ErrPoisoned, h.Collect())
		checkNumber(t, "P1: Join", 0, api.ErrPoisoned)(h.Join(n, 0))
		checkNumber(t, "P1: Join", 0, api.ErrPoisoned)(h.Join(0, n))
		checkNumber(t, "P1: Copy", 0, api.ErrPoisoned)(h.Copy(n))
		for _, v := range append([]api.Value{none, num(n), obj(n), obj(0)}, noValues...) {
			checkError(t, "P1: Set", api.ErrPoisoned, h.Set(n, n, v))
			checkTableCalls(t, h, n, v, num(1), api.ErrPoisoned)
			checkTableCalls(t, h, n, num(1), v, api.ErrPoisoned)
		}
	}
	checkNumber(t, "P1: Bytes", 0, api.ErrPoisoned)(h.Bytes(""))
	checkNumber(t, "P1: Bytes", 0, api.ErrPoisoned)(h.Bytes(strings.Repeat("a", 65)))
	if l, e := h.Words(); l != nil || e != api.ErrPoisoned {
		t.Errorf("P1: Words = %v, error %d", l, e)
	}
}
