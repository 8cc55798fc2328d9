package grip_test

import (
	"slices"
	"testing"

	"grip/api"
	"grip/grip"
)

func checkPlaces(t *testing.T, h *grip.Heap, handles []int, want ...int) {
	t.Helper()
	for i, x := range handles {
		checkNumber(t, "P6: Place", want[i], api.OK)(h.Place(x))
	}
}

// collected is Collect, twice: the second one changes nothing.
func collected(t *testing.T, h *grip.Heap) {
	t.Helper()
	checkError(t, "P12: Collect", api.OK, h.Collect())
	checkUnchanged(t, h, "the second Collect", func() { checkError(t, "P12: Collect again", api.OK, h.Collect()) })
}

// P12: nothing to reach: on a new heap, and where all handles have ended, with
// objects that hold each other and themselves.
func TestP12NothingToReach(t *testing.T) {
	h := newHeap(t, 50)
	collected(t, h)
	checkWords(t, h)
	h.Open()
	h.Array(2)
	h.Table(1)
	h.Set(0, 0, obj(0))
	h.Set(0, 1, obj(1))
	h.Put(1, obj(0), obj(1))
	checkNumber(t, "P11: Keep", 2, api.OK)(h.Keep(1))
	h.Close(1)
	checkError(t, "P11: Release", api.OK, h.Release(2))
	if l, e := h.Words(); len(l) != 11 || e != api.OK {
		t.Errorf("P12: Words = %v, error %d ahead of Collect", l, e)
	}
	collected(t, h)
	checkWords(t, h)
	checkEnded(t, h, 0, 1, 2)
	checkNumber(t, "P4: Bytes", 32, api.OK)(h.Bytes("b"))
	checkPlaces(t, h, []int{32}, 0)
	checkWords(t, h, 131073, 'b')
}

// P12: nothing is gone, and all lies in the order of slots already.
func TestP12NothingToMove(t *testing.T) {
	h := newHeap(t, 100)
	h.Array(2)
	h.Bytes("hello")
	h.Table(2)
	h.Set(0, 1, obj(2))
	h.Put(2, obj(1), obj(0))
	checkUnchanged(t, h, "Collect", func() { collected(t, h) })
}

// P12: an object with several handles comes once, where the lowest slot of
// them tells, and all of them go on having it.
func TestP12SeveralHandles(t *testing.T) {
	h := newHeap(t, 100)
	h.Open()
	h.Array(1)      // 0, at place 0
	h.Bytes("two")  // 1, at place 3
	h.Table(0)      // 2, at place 5
	h.Keep(2)       // 3
	h.Keep(1)       // 4
	h.Escape(2)     // 5
	h.Keep(1)       // 6
	h.Close(1)      // the slots 0, 1 and 2 are free
	h.Keep(4)       // 32, in slot 0
	h.Release(4)    //
	collected(t, h) // slot 0: the string; slot 3: the table; 5 and 6: those again
	checkWords(t, h, 131075, 't'+'w'<<8+'o'<<16, 196608, 0)
	checkPlaces(t, h, []int{32, 3, 5, 6}, 0, 2, 2, 0)
	checkSame(t, "P9: Same", true, api.OK)(h.Same(32, 6))
	checkSame(t, "P9: Same", true, api.OK)(h.Same(3, 5))
	checkSame(t, "P9: Same", false, api.OK)(h.Same(3, 6))
	checkText(t, "P5: Text", "two", api.OK)(h.Text(6))
	checkEnded(t, h, 0, 1, 2, 4)
	checkNumber(t, "P4: the next handle", 33, api.OK)(h.Array(0))
}

// P12: the slots tell the order, not the places: later objects can have lower
// slots.
func TestP12OrderOfSlots(t *testing.T) {
	h := newHeap(t, 100)
	h.Open()
	h.Bytes("gone") // 0, at place 0
	h.Array(1)      // 1, at place 2
	h.Escape(1)     // 2
	h.Close(1)
	checkNumber(t, "P4: Table", 32, api.OK)(h.Table(0))
	checkNumber(t, "P4: Bytes", 33, api.OK)(h.Bytes("b"))
	h.Set(2, 0, obj(33))
	checkWords(t, h, 131076, 'g'+'o'<<8+'n'<<16+'e'<<24, 65537, 2, 7, 196608, 0, 131073, 'b')
	collected(t, h)
	checkWords(t, h, 196608, 0, 131073, 'b', 65537, 2, 2)
	checkPlaces(t, h, []int{32, 33, 2}, 0, 2, 4)
}

// P12: what only arrays hold comes behind what handles have, object by object:
// all that the first one holds, then all that the second one holds, and so on.
func TestP12ArraysInArrays(t *testing.T) {
	h := newHeap(t, 200)
	h.Open()
	for n := 0; n < 7; n++ { // 0 to 6, at the places 0, 1, 4, 9, 16, 25, 36
		h.Array(n)
	}
	h.Set(6, 5, obj(4)) // 6 holds 4 and 5 (and 4 again), in this order
	h.Set(6, 1, obj(4))
	h.Set(6, 2, obj(5))
	h.Set(4, 3, obj(1)) // 4 holds 1 and 2
	h.Set(4, 2, num(4))
	h.Set(4, 1, obj(2))
	h.Set(5, 0, obj(0)) // 5 holds 0, 6 and 1; 3 is held by none
	h.Set(5, 1, obj(6))
	h.Set(5, 4, obj(1))
	h.Set(3, 0, obj(6))
	h.Keep(6)
	h.Close(1)
	collected(t, h) // 6 at 0; 4 at 13, 5 at 22; 2 at 33, 1 at 38; 0 at 41
	want := []int{65542, 0, 0, 2, 13, 2, 22, 0, 0, 0, 0, 2, 13}
	want = append(want, 65540, 0, 0, 2, 33, 1, 4, 2, 38)
	want = append(want, 65541, 2, 41, 2, 0, 0, 0, 0, 0, 2, 38)
	want = append(want, 65538, 0, 0, 0, 0, 65537, 0, 0, 65536)
	checkWords(t, h, want...)
	checkPlaces(t, h, []int{7}, 0)
	checkValue(t, "P7: Get", obj(32), api.OK)(h.Get(7, 2))
	checkPlaces(t, h, []int{32}, 22)
}

// P12: keys and values of tables count, entry by entry, the key first; numbers
// that look like places, and entries that are not there, stay as they are.
func TestP12Tables(t *testing.T) {
	h := newHeap(t, 200)
	h.Open()
	h.Bytes("zero")  // 0, at place 0
	h.Bytes("two")   // 1, at place 2
	h.Array(0)       // 2, at place 4
	h.Bytes("cut")   // 3, at place 5
	h.Table(5)       // 4, at place 7
	h.Array(1)       // 5, at place 29
	h.Bytes("thing") // 6, at place 32
	h.Put(4, obj(3), obj(3))
	h.Put(4, num(2), obj(5))
	h.Put(4, obj(1), num(2))
	h.Put(4, obj(6), obj(0))
	h.Put(4, num(0), none)
	h.Cut(4, obj(3))
	h.Set(5, 0, obj(2))
	h.Keep(4)
	h.Close(1)
	collected(t, h) // the table at 0; 5 at 22, 1 at 25, 6 at 27, 0 at 29; 2 at 31
	want := tableWords(5, [4]int{1, 2, 2, 22}, [4]int{2, 25, 1, 2}, [4]int{2, 27, 2, 29}, [4]int{1, 0, 0, 0})
	want = append(want, 65537, 2, 31)
	want = append(want, packed("two")...)
	want = append(want, packed("thing")...)
	want = append(want, packed("zero")...)
	want = append(want, 65536)
	checkWords(t, h, want...)
	checkNumber(t, "P5: Len", 4, api.OK)(h.Len(7))
	checkValue(t, "P8: Key", obj(32), api.OK)(h.Key(7, 2))
	checkText(t, "P5: Text of the key", "thing", api.OK)(h.Text(32))
	checkValue(t, "P8: Find by it", obj(33), api.OK)(h.Find(7, obj(32)))
	checkText(t, "P5: Text of the value", "zero", api.OK)(h.Text(33))
	checkValue(t, "P8: Find of what is no key", none, api.ErrNone)(h.Find(7, obj(33)))
	checkError(t, "P8: Put by a key that moved", api.OK, h.Put(7, obj(32), num(5)))
	checkError(t, "P8: Cut by a key that moved", api.OK, h.Cut(7, obj(32)))
	checkNumber(t, "P5: Len", 3, api.OK)(h.Len(7))
}

// P12: objects that hold each other or themselves, as values and as keys.
func TestP12Rings(t *testing.T) {
	h := newHeap(t, 100)
	h.Open()
	h.Bytes("gone") // 0, at place 0
	h.Array(1)      // 1, at place 2
	h.Table(1)      // 2, at place 5
	h.Array(2)      // 3, at place 11
	h.Set(1, 0, obj(2))
	h.Put(2, obj(1), obj(2))
	h.Set(3, 0, obj(3))
	h.Set(3, 1, obj(1))
	h.Keep(3)
	h.Close(1)
	collected(t, h)
	checkWords(t, h, 65538, 2, 0, 2, 5, 65537, 2, 8, 196609, 1, 2, 5, 2, 8)
	checkValue(t, "P7: Get of itself", obj(32), api.OK)(h.Get(4, 0))
	checkSame(t, "P9: Same", true, api.OK)(h.Same(4, 32))
	checkValue(t, "P7: Get", obj(1+32), api.OK)(h.Get(4, 1))
	checkValue(t, "P7: Get", obj(2+32), api.OK)(h.Get(33, 0))
	checkValue(t, "P8: Find", obj(3+32), api.OK)(h.Find(34, obj(33)))
	checkSame(t, "P9: Same", true, api.OK)(h.Same(34, 35))
}

// P12: what was set to another value, or cut, is held no more.
func TestP12HeldNoMore(t *testing.T) {
	h := newHeap(t, 100)
	h.Array(1)
	h.Table(2)
	h.Open()
	for _, s := range []string{"array", "key", "value", "again"} {
		h.Bytes(s) // 2 to 5
	}
	h.Set(0, 0, obj(2))
	h.Put(1, obj(3), obj(4))
	h.Put(1, num(1), obj(5))
	h.Close(1)
	h.Collect()
	checkNumber(t, "P6: words", 21, api.OK)(count(h))
	h.Set(0, 0, num(3))
	h.Put(1, num(1), num(3))
	h.Collect()
	checkNumber(t, "P6: words without two", 17, api.OK)(count(h))
	checkValue(t, "P8: Key", obj(34), api.OK)(h.Key(1, 0))
	h.Cut(1, obj(34))
	h.Collect()
	checkNumber(t, "P6: words, with a handle of the key", 15, api.OK)(count(h))
	checkText(t, "P5: Text", "key", api.OK)(h.Text(34))
	checkWords(t, h, append(append([]int{65537, 1, 3}, tableWords(2, [4]int{1, 1, 1, 3})...), packed("key")...)...)
}

// count tells how many words are in use.
func count(h *grip.Heap) (int, api.Errno) {
	l, e := h.Words()
	return len(l), e
}

// P12: the words of bytes are no values, whatever they look like.
func TestP12BytesHoldNothing(t *testing.T) {
	h := newHeap(t, 100)
	h.Open()
	h.Array(1)
	text := "\x02\x00\x00\x00\x00\x00\x00\x00\x00\x00\x00\x00\x00\x00\x00\x00\x02\x00\x00\x00\x00\x00\x00\x00\x03\x00\x00\x00\x00\x00\x00\x00"
	h.Bytes(text)
	h.Keep(1)
	h.Close(1)
	collected(t, h)
	checkWords(t, h, 131104, 2, 0, 2, 3)
	checkText(t, "P5: Text", text, api.OK)(h.Text(2))
}

// P12: all 32 slots, in an order that turns that of the places round, each
// with an array that holds the one of the slot ahead.
func TestP12AllSlots(t *testing.T) {
	h := newHeap(t, 512)
	h.Array(0)
	for x := 1; x < api.MaxHandles; x++ {
		h.Keep(0)
	}
	for x := api.MaxHandles - 1; x > 0; x-- {
		h.Release(x)
		checkNumber(t, "P4: Array in the only free slot", x+32, api.OK)(h.Array(2))
		checkPlaces(t, h, []int{x + 32}, 1+5*(31-x))
	}
	want := []int{65536}
	for x := 1; x < api.MaxHandles; x++ {
		ahead := max(0, 1+5*(x-2))
		want = append(want, 65538, 1, x, 2, ahead)
		h.Set(x+32, 0, num(x))
		h.Set(x+32, 1, obj(x+31))
		if x == 1 {
			h.Set(x+32, 1, obj(0))
		}
	}
	collected(t, h)
	checkWords(t, h, want...)
	for x := 1; x < api.MaxHandles; x++ {
		checkPlaces(t, h, []int{x + 32}, 1+5*(x-1))
	}
}

// P12: handles that have ended hold nothing, whatever the scope; kept ones and
// those of outer scopes do.
func TestP12LiveHandlesHold(t *testing.T) {
	h := newHeap(t, 100)
	h.Bytes("0")
	h.Open()
	h.Bytes("1")
	h.Open()
	h.Bytes("2")
	h.Bytes("3")
	h.Keep(3)
	h.Bytes("5")
	h.Escape(5)
	texts := func(want string) {
		t.Helper()
		h.Collect()
		l, _ := h.Words()
		got := ""
		for i := 1; i < len(l); i += 2 {
			got += string(rune(l[i]))
		}
		if got != want {
			t.Errorf("P12: what is left is %q, want %q", got, want)
		}
	}
	texts("01235")
	h.Close(2)
	texts("0135")
	h.Close(1)
	texts("03")
	h.Release(4)
	texts("0")
}

// P12, P15: handles' numbers have nothing to do with collecting: the live ones
// stay, and those that are not live stay stale.
func TestP12HandlesStay(t *testing.T) {
	h := newHeap(t, 100)
	h.Array(0)
	h.Open()
	h.Array(1)
	h.Keep(1)
	h.Close(1)
	for round := 1; round < 20; round++ {
		h.Open()
		checkNumber(t, "P4: Array", 32*round+1, api.OK)(h.Array(0))
		h.Close(1)
		collected(t, h)
		checkLive(t, h, 0, 2)
		checkEnded(t, h, append([]int{1, 3, 32*round + 1, 32*round + 33}, noHandles...)...)
		checkWords(t, h, 65536, 65537, 0, 0)
	}
}

// P12: a scope that is open stays so, with its handles.
func TestP12ScopesStay(t *testing.T) {
	h := newHeap(t, 100)
	h.Open()
	h.Array(0)
	h.Open()
	h.Array(1)
	collected(t, h)
	checkNumber(t, "P10: Open", 3, api.OK)(h.Open())
	checkError(t, "P10: Close", api.OK, h.Close(3))
	checkLive(t, h, 0, 1)
	checkError(t, "P10: Close", api.OK, h.Close(2))
	checkLive(t, h, 0)
	checkEnded(t, h, 1)
	collected(t, h)
	checkWords(t, h, 65536)
}

// P2: Collect writes into no list that Words answered, and a list that is
// written into changes nothing.
func TestP12WordsAreTheCallers(t *testing.T) {
	h := newHeap(t, 100)
	h.Open()
	h.Array(3)
	h.Bytes("stays")
	h.Keep(1)
	ahead, _ := h.Words()
	ahead = ahead[:cap(ahead)]
	want := slices.Clone(ahead)
	h.Close(1)
	h.Collect()
	h.Array(2)
	if !slices.Equal(ahead, want) {
		t.Errorf("P2: a list became %v, was %v", ahead, want)
	}
	behind, _ := h.Words()
	behind = behind[:cap(behind)]
	for i := range behind {
		behind[i] = 65537
	}
	h.Collect()
	checkWords(t, h, append([]int{65538, 0, 0, 0, 0}, packed("stays")...)...)
}

// The document's example of Collect, behind the calls of its first two.
func TestP12Example(t *testing.T) {
	h := newHeap(t, 20)
	h.Array(2)
	h.Bytes("hello")
	h.Set(0, 1, obj(1))
	h.Get(0, 1)
	h.Open()
	h.Table(1)
	h.Put(3, num(-7), obj(3))
	h.Find(3, num(-7))
	h.Keep(1)
	h.Escape(3)
	h.Close(1)
	h.Release(5)
	checkNumber(t, "Array(0)", 35, api.OK)(h.Array(0))
	checkNumber(t, "Place(35)", 13, api.OK)(h.Place(35))
	collected(t, h)
	checkWords(t, h, 65538, 0, 0, 2, 5, 131077, 478560413032, 65536, 196609, 1, 1, -7, 2, 8)
	checkPlaces(t, h, []int{0, 1, 2, 35, 6}, 0, 5, 5, 7, 8)
}
