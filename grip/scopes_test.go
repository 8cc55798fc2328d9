package grip_test

import (
	"slices"
	"testing"

	"grip/api"
)

// P10: scopes one within the other; a Close ends the handles of the scope that
// it closes, whatever kind their objects have, and no others.
func TestP10Close(t *testing.T) {
	h := newHeap(t, 100)
	h.Array(1)
	checkNumber(t, "P10: Open", 1, api.OK)(h.Open())
	h.Bytes("outer")
	h.Table(1)
	checkNumber(t, "P10: Open", 2, api.OK)(h.Open())
	h.Array(0)
	h.Bytes("inner")
	h.Table(0)
	checkLive(t, h, 0, 1, 2, 3, 4, 5)
	checkError(t, "P10: Close(2)", api.OK, h.Close(2))
	checkLive(t, h, 0, 1, 2)
	checkEnded(t, h, 3, 4, 5)
	checkText(t, "P5: Text", "outer", api.OK)(h.Text(1))
	checkError(t, "P10: Close(1)", api.OK, h.Close(1))
	checkLive(t, h, 0)
	checkEnded(t, h, 1, 2, 3, 4, 5)
	checkError(t, "P10: Close(1) once more", api.ErrScope, h.Close(1))
	checkLive(t, h, 0)
}

// P10: the order in which handles came is no matter: what is made in the outer
// scope behind the inner one's end is the outer one's.
func TestP10HandlesBehindAnInnerScope(t *testing.T) {
	h := newHeap(t, 100)
	h.Open()
	h.Open()
	h.Array(0)
	h.Close(2)
	checkNumber(t, "P4: Array", 32, api.OK)(h.Array(0))
	checkNumber(t, "P10: Open", 2, api.OK)(h.Open())
	checkNumber(t, "P4: Array", 1, api.OK)(h.Array(0))
	checkError(t, "P10: Close(2)", api.OK, h.Close(2))
	checkLive(t, h, 32)
	checkEnded(t, h, 0, 1)
	checkError(t, "P10: Close(1)", api.OK, h.Close(1))
	checkEnded(t, h, 0, 1, 32)
}

// P10: a scope has the number of one that was closed, and not its handles.
func TestP10SameNumberAgain(t *testing.T) {
	h := newHeap(t, 100)
	for round := 0; round < 20; round++ {
		checkNumber(t, "P10: Open", 1, api.OK)(h.Open())
		checkNumber(t, "P4: Array", 32*round, api.OK)(h.Array(0))
		if round > 0 {
			checkEnded(t, h, 32*(round-1))
		}
		checkError(t, "P10: Close", api.OK, h.Close(1))
		checkEnded(t, h, 32*round)
	}
}

// P10: a scope without handles, and scopes with all slots taken.
func TestP10ScopesTakeNoSlots(t *testing.T) {
	h := newHeap(t, 100)
	h.Open()
	checkError(t, "P10: Close of an empty scope", api.OK, h.Close(1))
	for x := 0; x < api.MaxHandles; x++ {
		h.Array(0)
	}
	checkNumber(t, "P10: Open with all slots taken", 1, api.OK)(h.Open())
	checkNumber(t, "P4: Array", 0, api.ErrHandles)(h.Array(0))
	checkError(t, "P10: Close", api.OK, h.Close(1))
	for x := 0; x < api.MaxHandles; x++ {
		checkLive(t, h, x)
	}
}

// P10: all 32 handles of a scope end, and all slots are free.
func TestP10AllSlotsEnd(t *testing.T) {
	h := newHeap(t, 200)
	for round := 0; round < 3; round++ {
		h.Open()
		for i := 0; i < api.MaxHandles; i++ {
			checkNumber(t, "P4: Array", 32*round+i, api.OK)(h.Array(0))
		}
		checkNumber(t, "P4: one more", 0, api.ErrHandles)(h.Array(0))
		checkError(t, "P10: Close", api.OK, h.Close(1))
		for i := 0; i < api.MaxHandles; i++ {
			checkEnded(t, h, 32*round+i)
		}
	}
}

// P10, P7, P8: a handle that Get, Find or Key answers belongs to the scope
// that is innermost then, not to that of the array or table.
func TestP10HandlesOfAnswers(t *testing.T) {
	h := newHeap(t, 100)
	h.Array(1)
	h.Table(1)
	h.Set(0, 0, obj(1))
	h.Put(1, obj(0), obj(1))
	h.Open()
	checkValue(t, "P7: Get", obj(2), api.OK)(h.Get(0, 0))
	h.Open()
	checkValue(t, "P7: Get", obj(3), api.OK)(h.Get(0, 0))
	checkValue(t, "P8: Find", obj(4), api.OK)(h.Find(1, obj(0)))
	checkValue(t, "P8: Key", obj(5), api.OK)(h.Key(1, 0))
	checkLive(t, h, 2, 3, 4, 5)
	h.Close(2)
	checkLive(t, h, 0, 1, 2)
	checkEnded(t, h, 3, 4, 5)
	checkValue(t, "P8: Find", obj(35), api.OK)(h.Find(1, obj(0)))
	checkValue(t, "P8: Key", obj(36), api.OK)(h.Key(1, 0))
	h.Close(1)
	checkLive(t, h, 0, 1)
	checkEnded(t, h, 2, 35, 36)
	checkValue(t, "P7: Get in scope 0", obj(34), api.OK)(h.Get(0, 0))
	h.Open()
	h.Close(1)
	checkLive(t, h, 34)
}

// P10: an object with handles in two scopes and a kept one: each ends for
// itself, and the object is the same by those that are left.
func TestP10ObjectWithSeveralHandles(t *testing.T) {
	h := newHeap(t, 100)
	h.Array(1)
	h.Open()
	h.Bytes("held")
	h.Set(0, 0, obj(1))
	h.Open()
	checkValue(t, "P7: Get", obj(2), api.OK)(h.Get(0, 0))
	checkNumber(t, "P11: Keep", 3, api.OK)(h.Keep(2))
	checkSame(t, "P9: Same", true, api.OK)(h.Same(1, 2))
	checkSame(t, "P9: Same", true, api.OK)(h.Same(3, 2))
	h.Close(2)
	checkEnded(t, h, 2)
	checkSame(t, "P9: Same", true, api.OK)(h.Same(1, 3))
	h.Close(1)
	checkEnded(t, h, 1, 2)
	checkText(t, "P5: Text by the kept handle", "held", api.OK)(h.Text(3))
	checkError(t, "P11: Release", api.OK, h.Release(3))
	checkEnded(t, h, 1, 2, 3)
	checkValue(t, "P7: Get, when no handle is left", obj(33), api.OK)(h.Get(0, 0))
	checkText(t, "P5: Text", "held", api.OK)(h.Text(33))
}

// P10: a new handle gets the lowest free slot, and a number that tells how
// many had it before.
func TestP10SlotsGivenAgain(t *testing.T) {
	h := newHeap(t, 100)
	h.Array(0)
	h.Open()
	h.Array(0)
	h.Keep(0)
	h.Array(0)
	h.Keep(0)
	h.Array(0)
	h.Close(1)
	checkLive(t, h, 0, 2, 4)
	checkEnded(t, h, 1, 3, 5)
	for _, want := range []int{33, 35, 37, 6} {
		checkEnded(t, h, want)
		checkNumber(t, "P4: Array", want, api.OK)(h.Array(0))
		checkLive(t, h, want)
		checkEnded(t, h, want+32)
	}
	checkEnded(t, h, 1, 3, 5)
	checkError(t, "P11: Release", api.OK, h.Release(4))
	checkError(t, "P11: Release", api.OK, h.Release(2))
	h.Open()
	checkNumber(t, "P4: the lowest slot, not the one that was freed first", 34, api.OK)(h.Array(0))
	checkNumber(t, "P4: Array", 36, api.OK)(h.Array(0))
	h.Close(1)
	checkNumber(t, "P4: Array", 66, api.OK)(h.Array(0))
	checkEnded(t, h, 2, 34, 98)
}

// P15: a number that was a handle's is none for ever, however often its slot
// is given.
func TestP15NoNumberTwice(t *testing.T) {
	h := newHeap(t, 100)
	h.Array(1)
	h.Set(0, 0, obj(0))
	seen := map[int]bool{0: true}
	note := func(what string, x int, e api.Errno) {
		t.Helper()
		if seen[x] || e != api.OK {
			t.Errorf("P15: %s = %d, error %d", what, x, e)
		}
		seen[x] = true
	}
	kept := []int{}
	for round := 0; round < 300; round++ {
		h.Open()
		h.Open()
		for i := 0; i <= round%5; i++ {
			x, e := h.Escape(0)
			note("Escape", x, e)
			v, e := h.Get(0, 0)
			note("Get", v.N, e)
		}
		x, e := h.Keep(0)
		note("Keep", x, e)
		kept = append(kept, x)
		for len(kept) > round%7 {
			checkError(t, "P11: Release", api.OK, h.Release(kept[0]))
			kept = kept[1:]
		}
		checkError(t, "P10: Close", api.OK, h.Close(2))
		checkError(t, "P10: Close", api.OK, h.Close(1))
	}
	for x := range seen {
		if x == 0 || slices.Contains(kept, x) {
			checkLive(t, h, x)
		} else {
			checkEnded(t, h, x)
		}
	}
}

// P10: 16 scopes beside 0, each with a handle, and one more.
func TestP10ManyScopes(t *testing.T) {
	h := newHeap(t, 100)
	h.Array(0)
	for n := 1; n <= api.MaxScopes; n++ {
		checkNumber(t, "P10: Open", n, api.OK)(h.Open())
		checkNumber(t, "P4: Array", n, api.OK)(h.Array(0))
	}
	checkUnchanged(t, h, "Open", func() {
		checkNumber(t, "P10: one more", 0, api.ErrScope)(h.Open())
		checkNumber(t, "P10: one more", 0, api.ErrScope)(h.Open())
	})
	for n := api.MaxScopes; n >= 1; n-- {
		checkError(t, "P10: Close of one around", api.ErrScope, h.Close(n-1))
		checkError(t, "P10: Close of one within", api.ErrScope, h.Close(n+1))
		checkLive(t, h, n)
		checkError(t, "P10: Close", api.OK, h.Close(n))
		checkEnded(t, h, n)
		for x := 0; x < n; x++ {
			checkLive(t, h, x)
		}
	}
	checkError(t, "P10: Close(0)", api.ErrScope, h.Close(0))
	checkNumber(t, "P10: Open", 1, api.OK)(h.Open())
}

// P10: when one of the 16 is closed, just one can be opened.
func TestP10RoomForOneScope(t *testing.T) {
	h := newHeap(t, 100)
	for n := 1; n <= api.MaxScopes; n++ {
		h.Open()
	}
	h.Close(16)
	checkNumber(t, "P10: Open", 16, api.OK)(h.Open())
	checkNumber(t, "P10: Open", 0, api.ErrScope)(h.Open())
	h.Close(16)
	h.Close(15)
	checkNumber(t, "P10: Open", 15, api.OK)(h.Open())
}

// P10: numbers of scopes that may not be closed: 0, one around the innermost,
// one that is not open, and what can't be a scope's.
func TestP10CloseOfOthers(t *testing.T) {
	for open := 0; open <= 3; open++ {
		h := newHeap(t, 100)
		h.Array(0)
		for n := 1; n <= open; n++ {
			h.Open()
			h.Array(0)
		}
		h.Keep(0)
		numbers := append([]int{-1, -2, -3, -16, 4, 5, 16, 17, 32}, greatNumbers...)
		for n := 0; n <= 4; n++ {
			if n != open || n == 0 {
				numbers = append(numbers, n)
			}
		}
		for _, n := range numbers {
			checkUnchanged(t, h, "Close", func() { checkError(t, "P10: Close of another", api.ErrScope, h.Close(n)) })
		}
		for x := 0; x <= open+1; x++ {
			checkLive(t, h, x)
		}
		for n := open; n > 0; n-- {
			checkError(t, "P10: Close of the innermost", api.OK, h.Close(n))
			checkEnded(t, h, n)
		}
		checkLive(t, h, 0, open+1)
	}
}

// P10, P15: Close moves nothing, and what it leaves in other objects stays.
func TestP10WordsStay(t *testing.T) {
	h := newHeap(t, 100)
	h.Array(2)
	h.Open()
	h.Bytes("ab")
	h.Table(1)
	h.Set(0, 0, obj(1))
	h.Set(0, 1, obj(2))
	h.Put(2, obj(1), obj(0))
	want := append([]int{65538, 2, 5, 2, 7, 131074, 25185}, tableWords(1, [4]int{2, 5, 2, 0})...)
	checkWords(t, h, want...)
	h.Close(1)
	checkWords(t, h, want...)
	checkNumber(t, "P6: Place", 0, api.OK)(h.Place(0))
	checkValue(t, "P7: Get", obj(33), api.OK)(h.Get(0, 1))
	checkValue(t, "P8: Key", obj(34), api.OK)(h.Key(33, 0))
	checkText(t, "P5: Text", "ab", api.OK)(h.Text(34))
	checkNumber(t, "P6: Place", 5, api.OK)(h.Place(34))
}

// P2: the scopes and handles of one heap are no matter to another.
func TestP10TwoHeaps(t *testing.T) {
	one := newHeap(t, 100)
	other := newHeap(t, 100)
	one.Array(0)
	one.Open()
	one.Array(0)
	checkError(t, "P10: Close on the other heap", api.ErrScope, other.Close(1))
	other.Array(0)
	checkNumber(t, "P11: Escape on the other heap", 0, api.ErrScope)(other.Escape(0))
	checkNumber(t, "P10: Open on the other heap", 1, api.OK)(other.Open())
	checkNumber(t, "P4: Array on the other heap", 1, api.OK)(other.Array(0))
	checkNumber(t, "P10: Open", 2, api.OK)(one.Open())
	checkError(t, "P10: Close", api.OK, other.Close(1))
	checkLive(t, one, 0, 1)
	checkEnded(t, other, 1)
	checkError(t, "P10: Close", api.OK, one.Close(2))
}

// The document's examples ahead of Collect.
func TestP10P11Example(t *testing.T) {
	h := newHeap(t, 20)
	checkNumber(t, "Array(2)", 0, api.OK)(h.Array(2))
	checkNumber(t, "Bytes", 1, api.OK)(h.Bytes("hello"))
	checkError(t, "Set", api.OK, h.Set(0, 1, obj(1)))
	checkValue(t, "Get", obj(2), api.OK)(h.Get(0, 1))
	checkNumber(t, "Open", 1, api.OK)(h.Open())
	checkNumber(t, "Table", 3, api.OK)(h.Table(1))
	checkError(t, "Put", api.OK, h.Put(3, num(-7), obj(3)))
	checkWords(t, h, 65538, 0, 0, 2, 5, 131077, 478560413032, 196609, 1, 1, -7, 2, 7)
	checkError(t, "Put", api.ErrFull, h.Put(3, num(8), none))
	checkValue(t, "Find", obj(4), api.OK)(h.Find(3, num(-7)))
	checkValue(t, "Find", none, api.ErrNone)(h.Find(3, obj(3)))
	checkValue(t, "Find", none, api.ErrValue)(h.Find(3, none))
	checkValue(t, "Key", num(-7), api.OK)(h.Key(3, 0))
	checkError(t, "Close(2)", api.ErrScope, h.Close(2))
	checkError(t, "Close(0)", api.ErrScope, h.Close(0))
	checkNumber(t, "Keep", 5, api.OK)(h.Keep(1))
	checkNumber(t, "Escape", 6, api.OK)(h.Escape(3))
	checkError(t, "Close(1)", api.OK, h.Close(1))
	checkNumber(t, "Kind(3)", 0, api.ErrStale)(h.Kind(3))
	checkNumber(t, "Kind(4)", 0, api.ErrStale)(h.Kind(4))
	checkNumber(t, "Kind(5)", api.Bytes, api.OK)(h.Kind(5))
	checkNumber(t, "Kind(6)", api.Table, api.OK)(h.Kind(6))
	checkError(t, "Release(6)", api.ErrScope, h.Release(6))
	checkError(t, "Release(5)", api.OK, h.Release(5))
	checkNumber(t, "Escape(0)", 0, api.ErrScope)(h.Escape(0))
	checkNumber(t, "Array(0)", 35, api.OK)(h.Array(0))
	checkNumber(t, "Place(35)", 13, api.OK)(h.Place(35))
}
