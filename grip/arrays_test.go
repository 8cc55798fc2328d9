package grip_test

import (
	"testing"

	"grip/api"
	"grip/grip"
)

func TestP7ValuesOfAllKinds(t *testing.T) {
	h := newHeap(t, 100)
	h.Table(0)
	h.Array(4)
	h.Bytes("ab")
	checkError(t, "P7: Set to a number", api.OK, h.Set(1, 0, num(7)))
	checkError(t, "P7: Set to a string", api.OK, h.Set(1, 1, obj(2)))
	checkError(t, "P7: Set to a table", api.OK, h.Set(1, 3, obj(0)))
	checkWords(t, h, 196608, 0, 65540, 1, 7, 2, 11, 0, 0, 2, 0, 131074, 25185)
	checkValue(t, "P7: Get of a number", num(7), api.OK)(h.Get(1, 0))
	checkValue(t, "P7: Get of a string", obj(3), api.OK)(h.Get(1, 1))
	checkValue(t, "P7: Get of Nil", none, api.OK)(h.Get(1, 2))
	checkValue(t, "P7: Get of a table", obj(4), api.OK)(h.Get(1, 3))
	checkText(t, "P7: the string that was got", "ab", api.OK)(h.Text(3))
	checkNumber(t, "P7: the table that was got", api.Table, api.OK)(h.Kind(4))
	checkNumber(t, "P7: the place of what was got", 11, api.OK)(h.Place(3))
	checkWords(t, h, 196608, 0, 65540, 1, 7, 2, 11, 0, 0, 2, 0, 131074, 25185)
}

// P7: one kind of value comes in the place of another, and leaves nothing of
// it behind.
func TestP7SetAnew(t *testing.T) {
	h := newHeap(t, 100)
	h.Array(0)
	h.Array(1)
	values := []api.Value{num(7), obj(0), {Kind: api.Nil, N: 5}, obj(1), num(-7), none}
	words := [][]int{{1, 7}, {2, 0}, {0, 0}, {2, 1}, {1, -7}, {0, 0}}
	for i := range values {
		for j := range values {
			checkError(t, "P7: Set", api.OK, h.Set(1, 0, values[i]))
			checkWords(t, h, 65536, 65537, words[i][0], words[i][1])
			checkError(t, "P7: Set", api.OK, h.Set(1, 0, values[j]))
			checkWords(t, h, 65536, 65537, words[j][0], words[j][1])
		}
	}
}

// P7: the N of a Nil is not looked at, and none comes out.
func TestP7NilHasNoNumber(t *testing.T) {
	h := newHeap(t, 100)
	h.Array(1)
	for _, n := range append([]int{0, 1, -1, 5, 31}, greatNumbers...) {
		checkError(t, "P7: Set to a number", api.OK, h.Set(0, 0, num(n)))
		checkWords(t, h, 65537, 1, n)
		checkValue(t, "P7: Get of a number", num(n), api.OK)(h.Get(0, 0))
		checkError(t, "P7: Set to Nil", api.OK, h.Set(0, 0, api.Value{Kind: api.Nil, N: n}))
		checkWords(t, h, 65537, 0, 0)
		checkValue(t, "P7: Get of Nil", none, api.OK)(h.Get(0, 0))
	}
}

// P7: every element of every length, between two neighbours that stay as they
// are, and every index beside them.
func TestP7Indices(t *testing.T) {
	for n := 0; n <= api.MaxArray; n++ {
		h := newHeap(t, 100)
		h.Array(1)
		h.Array(n)
		h.Array(1)
		h.Set(0, 0, num(-1))
		h.Set(2, 0, num(-2))
		want := []int{65537, 1, -1, 65536 + n}
		for i := 0; i < n; i++ {
			checkError(t, "P7: Set", api.OK, h.Set(1, i, num(100+i)))
			want = append(want, 1, 100+i)
		}
		want = append(want, 65537, 1, -2)
		checkWords(t, h, want...)
		for i := 0; i < n; i++ {
			checkValue(t, "P7: Get", num(100+i), api.OK)(h.Get(1, i))
		}
		for _, i := range append([]int{-1, -2, n, n + 1, n + 2, 16, 17}, greatNumbers...) {
			checkUnchanged(t, h, "an index that there is not", func() { checkNoElement(t, h, 1, i) })
		}
	}
}

func checkNoElement(t *testing.T, h *grip.Heap, x int, i int) {
	t.Helper()
	checkValue(t, "P7: Get", none, api.ErrIndex)(h.Get(x, i))
	checkError(t, "P7: Set to a number", api.ErrIndex, h.Set(x, i, num(1)))
	checkError(t, "P7: Set to Nil", api.ErrIndex, h.Set(x, i, none))
	checkError(t, "P7: Set to an object", api.ErrIndex, h.Set(x, i, obj(0)))
}

func TestP7ArrayInItself(t *testing.T) {
	h := newHeap(t, 100)
	h.Bytes("x")
	h.Array(2)
	checkError(t, "P7: Set", api.OK, h.Set(1, 1, obj(1)))
	checkWords(t, h, 131073, 120, 65538, 0, 0, 2, 2)
	checkValue(t, "P7: Get", obj(2), api.OK)(h.Get(1, 1))
	checkValue(t, "P7: Get of what was got", obj(3), api.OK)(h.Get(2, 1))
	checkSame(t, "P9: the array and itself", true, api.OK)(h.Same(1, 3))
	checkError(t, "P7: Set by another handle", api.OK, h.Set(3, 0, num(9)))
	checkValue(t, "P7: Get by the first", num(9), api.OK)(h.Get(1, 0))
	checkError(t, "P7: Set over itself", api.OK, h.Set(2, 1, none))
	checkValue(t, "P7: Get", none, api.OK)(h.Get(1, 1))
	checkWords(t, h, 131073, 120, 65538, 1, 9, 0, 0)
}

// P7: what stands in an array is the object, not what it held then.
func TestP7ElementsAreObjects(t *testing.T) {
	h := newHeap(t, 100)
	h.Array(2)
	h.Array(1)
	h.Set(0, 0, obj(1))
	h.Set(0, 1, obj(1))
	h.Set(1, 0, num(5))
	checkValue(t, "P7: Get", obj(2), api.OK)(h.Get(0, 0))
	checkValue(t, "P7: Get", obj(3), api.OK)(h.Get(0, 1))
	checkValue(t, "P7: Get of the inner one", num(5), api.OK)(h.Get(2, 0))
	h.Set(3, 0, num(6))
	checkValue(t, "P7: Get by another handle", num(6), api.OK)(h.Get(2, 0))
	checkValue(t, "P7: Get by the first handle", num(6), api.OK)(h.Get(1, 0))
}

// P7: each answer that is an object has a handle of its own; others have none.
func TestP7NewHandles(t *testing.T) {
	h := newHeap(t, 100)
	h.Array(3)
	h.Set(0, 0, obj(0))
	h.Set(0, 1, num(4))
	for x := 1; x < api.MaxHandles; x++ {
		checkValue(t, "P7: Get of a number", num(4), api.OK)(h.Get(0, 1))
		checkValue(t, "P7: Get of Nil", none, api.OK)(h.Get(0, 2))
		checkNumber(t, "P7: Kind ahead of Get", 0, api.ErrStale)(h.Kind(x))
		checkValue(t, "P7: Get of an object", obj(x), api.OK)(h.Get(0, 0))
		checkSame(t, "P9: Same", true, api.OK)(h.Same(0, x))
	}
}

// P7: all slots taken is no matter but where an object is answered.
func TestP7AllSlotsTaken(t *testing.T) {
	h := newHeap(t, 100)
	h.Array(3)
	h.Set(0, 0, obj(0))
	h.Set(0, 1, num(4))
	for x := 1; x < api.MaxHandles; x++ {
		h.Array(0)
	}
	checkUnchanged(t, h, "Get without a slot", func() {
		checkValue(t, "P7: Get of an object", none, api.ErrHandles)(h.Get(0, 0))
		checkValue(t, "P1: ErrIndex goes first", none, api.ErrIndex)(h.Get(0, 3))
		checkValue(t, "P1: ErrStale goes first", none, api.ErrStale)(h.Get(32, 0))
	})
	checkValue(t, "P7: Get of a number", num(4), api.OK)(h.Get(0, 1))
	checkValue(t, "P7: Get of Nil", none, api.OK)(h.Get(0, 2))
	checkError(t, "P7: Set to an object", api.OK, h.Set(0, 2, obj(31)))
	checkError(t, "P7: Set to a number", api.OK, h.Set(0, 0, num(3)))
	checkValue(t, "P7: Get of what was an object", num(3), api.OK)(h.Get(0, 0))
	checkValue(t, "P7: Get of what is one now", none, api.ErrHandles)(h.Get(0, 2))
}

// P7: Get and Set are for arrays, and take handles and values alone.
func TestP7WrongInputs(t *testing.T) {
	h := newHeap(t, 100)
	h.Array(2)
	h.Bytes("some text")
	h.Table(2)
	h.Put(2, num(1), num(2))
	for _, x := range []int{1, 2} {
		for _, i := range append([]int{-1, 0, 1, 2}, greatNumbers...) {
			checkUnchanged(t, h, "an object of another kind", func() {
				checkValue(t, "P7: Get", none, api.ErrKind)(h.Get(x, i))
				checkError(t, "P7: Set", api.ErrKind, h.Set(x, i, num(1)))
				checkError(t, "P7: Set", api.ErrKind, h.Set(x, i, none))
				checkError(t, "P7: Set", api.ErrKind, h.Set(x, i, obj(0)))
			})
		}
	}
	for _, n := range noHandles {
		checkUnchanged(t, h, "no handle", func() {
			checkValue(t, "P7: Get of no handle", none, api.ErrStale)(h.Get(n, 0))
			checkError(t, "P7: Set of no handle", api.ErrStale, h.Set(n, 0, num(1)))
			checkError(t, "P7: Set to no handle", api.ErrStale, h.Set(0, 0, obj(n)))
		})
	}
	for _, v := range noValues {
		checkUnchanged(t, h, "no value", func() { checkError(t, "P7: Set to no value", api.ErrValue, h.Set(0, 0, v)) })
	}
}

// P1: the errors of Get and Set, each with all of those behind it.
func TestP7OrderOfErrors(t *testing.T) {
	h := newHeap(t, 100)
	h.Array(2)
	h.Bytes("b")
	checkUnchanged(t, h, "a call with many errors", func() {
		checkError(t, "P1: no value", api.ErrValue, h.Set(9, 9, api.Value{Kind: 3, N: 9}))
		checkError(t, "P1: no value", api.ErrValue, h.Set(1, 9, api.Value{Kind: 3, N: 0}))
		checkError(t, "P1: no value", api.ErrValue, h.Set(0, 9, api.Value{Kind: -1, N: 9}))
		checkError(t, "P1: no handle", api.ErrStale, h.Set(9, 9, num(1)))
		checkError(t, "P1: no handle in the value", api.ErrStale, h.Set(1, 9, obj(9)))
		checkError(t, "P1: no handle in the value", api.ErrStale, h.Set(0, 9, obj(9)))
		checkError(t, "P1: another kind", api.ErrKind, h.Set(1, 9, obj(0)))
		checkError(t, "P1: no such index", api.ErrIndex, h.Set(0, 9, obj(0)))
		checkValue(t, "P1: no handle", none, api.ErrStale)(h.Get(9, 9))
		checkValue(t, "P1: another kind", none, api.ErrKind)(h.Get(1, 9))
		checkValue(t, "P1: no such index", none, api.ErrIndex)(h.Get(0, 9))
	})
	// Neither the number of Nil nor that of Int is taken for a handle.
	checkError(t, "P1: Set to a number", api.OK, h.Set(0, 0, num(9)))
	checkError(t, "P1: Set to Nil", api.OK, h.Set(0, 0, api.Value{Kind: api.Nil, N: 9}))
}
