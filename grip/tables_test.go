package grip_test

import (
	"testing"

	"grip/api"
	"grip/grip"
)

// tableWords are the words of a table: each row an entry, a key and a value.
func tableWords(room int, rows ...[4]int) []int {
	words := []int{3*65536 + room, len(rows)}
	for _, r := range rows {
		words = append(words, r[:]...)
	}
	return append(words, make([]int, 4*(room-len(rows)))...)
}

// numbered makes a heap whose first object is a table with the keys 0, 10, 20
// .. and the values 1, 11, 21 ..
func numbered(t *testing.T, room int, count int) *grip.Heap {
	t.Helper()
	h := newHeap(t, 100)
	h.Table(room)
	for i := 0; i < count; i++ {
		checkError(t, "P8: Put", api.OK, h.Put(0, num(10*i), num(10*i+1)))
	}
	return h
}

func TestP8KeysAndValuesOfAllKinds(t *testing.T) {
	h := newHeap(t, 100)
	h.Bytes("ab")
	h.Table(7)
	h.Array(0)
	checkError(t, "P8: a number, a number", api.OK, h.Put(1, num(-7), num(70)))
	checkError(t, "P8: a string, a number", api.OK, h.Put(1, obj(0), num(71)))
	checkError(t, "P8: an array, Nil", api.OK, h.Put(1, obj(2), api.Value{Kind: api.Nil, N: 4}))
	checkError(t, "P8: the table in itself", api.OK, h.Put(1, obj(1), obj(1)))
	checkError(t, "P8: a number, an array", api.OK, h.Put(1, num(0), obj(2)))
	checkError(t, "P8: a number, Nil", api.OK, h.Put(1, num(2), none))
	want := append([]int{131074, 25185}, tableWords(7, [4]int{1, -7, 1, 70}, [4]int{2, 0, 1, 71}, [4]int{2, 32, 0, 0},
		[4]int{2, 2, 2, 2}, [4]int{1, 0, 2, 32}, [4]int{1, 2, 0, 0})...)
	want = append(want, 65536)
	checkWords(t, h, want...)
	checkNumber(t, "P5: Len", 6, api.OK)(h.Len(1))
	checkValue(t, "P8: Find", num(70), api.OK)(h.Find(1, num(-7)))
	checkValue(t, "P8: Find", num(71), api.OK)(h.Find(1, obj(0)))
	checkValue(t, "P8: Find", none, api.OK)(h.Find(1, obj(2)))
	checkValue(t, "P8: Find of the table in itself", obj(3), api.OK)(h.Find(1, obj(1)))
	checkValue(t, "P8: Find of an array", obj(4), api.OK)(h.Find(1, num(0)))
	checkValue(t, "P8: Find", none, api.OK)(h.Find(1, num(2)))
	checkSame(t, "P9: the table", true, api.OK)(h.Same(3, 1))
	checkSame(t, "P9: the array", true, api.OK)(h.Same(4, 2))
	for i, want := range []api.Value{num(-7), obj(5), obj(6), obj(7), num(0), num(2)} {
		checkValue(t, "P8: Key", want, api.OK)(h.Key(1, i))
	}
	checkSame(t, "P9: the string that is a key", true, api.OK)(h.Same(5, 0))
	checkSame(t, "P9: the array that is a key", true, api.OK)(h.Same(6, 2))
	checkSame(t, "P9: the table that is a key", true, api.OK)(h.Same(7, 1))
	checkWords(t, h, want...)
}

// P8: a key that is an object is told by any handle of it; another object
// that holds the same is another key, and so is the number of its place.
func TestP8KeysThatAreObjects(t *testing.T) {
	h := newHeap(t, 100)
	h.Array(1)
	h.Bytes("k")
	h.Bytes("k")
	h.Table(2)
	h.Set(0, 0, obj(1))
	checkValue(t, "P7: a second handle of the key", obj(4), api.OK)(h.Get(0, 0))
	checkError(t, "P8: Put", api.OK, h.Put(3, obj(1), num(1)))
	checkValue(t, "P8: Find by the second handle", num(1), api.OK)(h.Find(3, obj(4)))
	checkValue(t, "P8: Find of another object", none, api.ErrNone)(h.Find(3, obj(2)))
	checkValue(t, "P8: Find of the place", none, api.ErrNone)(h.Find(3, num(3)))
	checkValue(t, "P8: Find of the handle's number", none, api.ErrNone)(h.Find(3, num(1)))
	checkError(t, "P8: Put by the second handle", api.OK, h.Put(3, obj(4), num(2)))
	checkNumber(t, "P5: Len", 1, api.OK)(h.Len(3))
	checkError(t, "P8: Put of another object", api.OK, h.Put(3, obj(2), num(3)))
	checkNumber(t, "P5: Len", 2, api.OK)(h.Len(3))
	checkValue(t, "P8: Find by the first handle", num(2), api.OK)(h.Find(3, obj(1)))
	checkValue(t, "P8: Find of the other", num(3), api.OK)(h.Find(3, obj(2)))
	checkError(t, "P8: Cut of the place", api.ErrNone, h.Cut(3, num(3)))
	checkError(t, "P8: Cut by the second handle", api.OK, h.Cut(3, obj(4)))
	checkValue(t, "P8: Find by the first handle", none, api.ErrNone)(h.Find(3, obj(1)))
	checkValue(t, "P8: Find of the other", num(3), api.OK)(h.Find(3, obj(2)))
}

// P8: numbers that are near to each other in some way are still other keys.
func TestP8KeysThatAreNumbers(t *testing.T) {
	keys := []int{0, 1, -1, 1 << 32, 1 << 62, -1 << 63, 1<<63 - 1, 65536}
	h := newHeap(t, 100)
	h.Table(8)
	for i, k := range keys {
		checkValue(t, "P8: Find ahead of Put", none, api.ErrNone)(h.Find(0, num(k)))
		checkError(t, "P8: Put", api.OK, h.Put(0, num(k), num(i)))
	}
	for i, k := range keys {
		checkValue(t, "P8: Find", num(i), api.OK)(h.Find(0, num(k)))
		checkValue(t, "P8: Key", num(k), api.OK)(h.Key(0, i))
	}
	for _, k := range []int{2, -2, 1<<32 + 1, 1<<62 + 1, -1<<63 + 1, 1<<63 - 2, 131072} {
		checkValue(t, "P8: Find of a number near by", none, api.ErrNone)(h.Find(0, num(k)))
	}
}

// P8: each room, with each number of entries up to it.
func TestP8Rooms(t *testing.T) {
	for room := 0; room <= api.MaxTable; room++ {
		for count := 0; count <= room; count++ {
			h := numbered(t, room, count)
			h.Array(1)
			checkNumber(t, "P5: Len", count, api.OK)(h.Len(0))
			rows := [][4]int{}
			for i := 0; i < count; i++ {
				rows = append(rows, [4]int{1, 10 * i, 1, 10*i + 1})
				checkValue(t, "P8: Find", num(10*i+1), api.OK)(h.Find(0, num(10*i)))
				checkValue(t, "P8: Key", num(10*i), api.OK)(h.Key(0, i))
			}
			checkWords(t, h, append(tableWords(room, rows...), 65537, 0, 0)...)
			checkUnchanged(t, h, "a key or an index that there is not", func() { checkNotThere(t, h, count) })
		}
	}
}

func checkNotThere(t *testing.T, h *grip.Heap, count int) {
	t.Helper()
	for _, i := range append([]int{-1, -2, count, count + 1, 8, 9}, greatNumbers...) {
		checkValue(t, "P8: Key", none, api.ErrIndex)(h.Key(0, i))
	}
	for _, k := range append([]int{-1, 10 * count, 1, 11}, greatNumbers...) {
		checkValue(t, "P8: Find", none, api.ErrNone)(h.Find(0, num(k)))
		checkError(t, "P8: Cut", api.ErrNone, h.Cut(0, num(k)))
	}
	for x := 0; x < 2; x++ {
		checkValue(t, "P8: Find", none, api.ErrNone)(h.Find(0, obj(x)))
		checkError(t, "P8: Cut", api.ErrNone, h.Cut(0, obj(x)))
	}
}

// P8: with all room taken a new key is refused, and one that is there is not.
func TestP8Full(t *testing.T) {
	for room := 0; room <= api.MaxTable; room++ {
		h := numbered(t, room, room)
		h.Array(1)
		checkUnchanged(t, h, "Put without room", func() {
			checkError(t, "P8: Put of a new number", api.ErrFull, h.Put(0, num(5), num(1)))
			checkError(t, "P8: Put of a new object", api.ErrFull, h.Put(0, obj(1), none))
			checkError(t, "P8: Put of itself", api.ErrFull, h.Put(0, obj(0), obj(1)))
		})
		rows := [][4]int{}
		for i := 0; i < room; i++ {
			rows = append(rows, [4]int{1, 10 * i, 1, -i})
			checkError(t, "P8: Put of a key that is there", api.OK, h.Put(0, num(10*i), num(-i)))
		}
		checkWords(t, h, append(tableWords(room, rows...), 65537, 0, 0)...)
	}
}

// P8: a key that is put again keeps its place, and takes each kind of value.
func TestP8PutAgain(t *testing.T) {
	h := numbered(t, 4, 3)
	h.Array(0)
	values := []api.Value{num(9), obj(1), {Kind: api.Nil, N: 9}, obj(0), num(-9), none}
	words := [][2]int{{1, 9}, {2, 18}, {0, 0}, {2, 0}, {1, -9}, {0, 0}}
	for i, v := range values {
		rows := [][4]int{{1, 0, 1, 1}, {1, 10, 1, 11}, {1, 20, 1, 21}}
		for place := 0; place < 3; place++ {
			checkError(t, "P8: Put again", api.OK, h.Put(0, num(10*place), v))
			rows[place] = [4]int{1, 10 * place, words[i][0], words[i][1]}
			checkWords(t, h, append(tableWords(4, rows...), 65536)...)
		}
		for place := 0; place < 3; place++ {
			h.Put(0, num(10*place), num(10*place+1))
		}
	}
}

// P8: each entry of each number of entries is cut: those behind it move up,
// and nothing of the last one stays behind.
func TestP8Cut(t *testing.T) {
	for count := 1; count <= api.MaxTable; count++ {
		for cut := 0; cut < count; cut++ {
			h := numbered(t, api.MaxTable, count)
			h.Array(1)
			rows := [][4]int{}
			for i := 0; i < count; i++ {
				if i != cut {
					rows = append(rows, [4]int{1, 10 * i, 1, 10*i + 1})
				}
			}
			checkError(t, "P8: Cut", api.OK, h.Cut(0, num(10*cut)))
			checkWords(t, h, append(tableWords(api.MaxTable, rows...), 65537, 0, 0)...)
			checkNumber(t, "P5: Len", count-1, api.OK)(h.Len(0))
			checkValue(t, "P8: Find of what was cut", none, api.ErrNone)(h.Find(0, num(10*cut)))
			checkError(t, "P8: Cut of what was cut", api.ErrNone, h.Cut(0, num(10*cut)))
			for i, r := range rows {
				checkValue(t, "P8: Key", num(r[1]), api.OK)(h.Key(0, i))
				checkValue(t, "P8: Find", num(r[3]), api.OK)(h.Find(0, num(r[1])))
			}
			checkValue(t, "P8: Key behind the last", none, api.ErrIndex)(h.Key(0, count-1))
			checkError(t, "P8: Put of what was cut", api.OK, h.Put(0, num(10*cut), num(5)))
			rows = append(rows, [4]int{1, 10 * cut, 1, 5})
			checkWords(t, h, append(tableWords(api.MaxTable, rows...), 65537, 0, 0)...)
		}
	}
}

// P8: entries with objects move up whole; the table may be cut from itself.
func TestP8CutOfObjects(t *testing.T) {
	h := newHeap(t, 100)
	h.Table(3)
	h.Bytes("k")
	h.Put(0, obj(0), num(1))
	h.Put(0, num(2), obj(1))
	h.Put(0, obj(1), obj(0))
	checkError(t, "P8: Cut of itself", api.OK, h.Cut(0, obj(0)))
	checkWords(t, h, append(tableWords(3, [4]int{1, 2, 2, 14}, [4]int{2, 14, 2, 0}), 131073, 107)...)
	checkError(t, "P8: Cut of the last", api.OK, h.Cut(0, obj(1)))
	checkWords(t, h, append(tableWords(3, [4]int{1, 2, 2, 14}), 131073, 107)...)
	checkError(t, "P8: Cut of the only one", api.OK, h.Cut(0, num(2)))
	checkWords(t, h, append(tableWords(3), 131073, 107)...)
	checkText(t, "P8: the key lives on", "k", api.OK)(h.Text(1))
}

// P8: with all slots taken, only answers that are objects are refused.
func TestP8AllSlotsTaken(t *testing.T) {
	h := newHeap(t, 100)
	h.Table(3)
	h.Put(0, num(1), obj(0))
	h.Put(0, obj(0), num(2))
	for x := 1; x < api.MaxHandles; x++ {
		h.Array(0)
	}
	checkUnchanged(t, h, "an object without a slot", func() {
		checkValue(t, "P8: Find of an object", none, api.ErrHandles)(h.Find(0, num(1)))
		checkValue(t, "P8: Key that is an object", none, api.ErrHandles)(h.Key(0, 1))
		checkValue(t, "P1: ErrNone goes first", none, api.ErrNone)(h.Find(0, num(3)))
		checkValue(t, "P1: ErrIndex goes first", none, api.ErrIndex)(h.Key(0, 2))
	})
	checkValue(t, "P8: Find of a number", num(2), api.OK)(h.Find(0, obj(0)))
	checkValue(t, "P8: Key that is a number", num(1), api.OK)(h.Key(0, 0))
	checkError(t, "P8: Put", api.OK, h.Put(0, obj(31), obj(30)))
	checkError(t, "P8: Cut", api.OK, h.Cut(0, obj(0)))
	checkNumber(t, "P5: Len", 2, api.OK)(h.Len(0))
}

// P8: each answer that is an object takes the lowest slot; no other takes one.
func TestP8NewHandles(t *testing.T) {
	h := newHeap(t, 100)
	h.Table(3)
	h.Put(0, num(1), obj(0))
	h.Put(0, obj(0), num(2))
	h.Put(0, num(3), none)
	for x := 1; x+1 < api.MaxHandles; x += 2 {
		checkValue(t, "P8: Find of a number", num(2), api.OK)(h.Find(0, obj(0)))
		checkValue(t, "P8: Find of Nil", none, api.OK)(h.Find(0, num(3)))
		checkValue(t, "P8: Key that is a number", num(1), api.OK)(h.Key(0, 0))
		checkValue(t, "P8: Find of an object", obj(x), api.OK)(h.Find(0, num(1)))
		checkValue(t, "P8: Key that is an object", obj(x+1), api.OK)(h.Key(0, 1))
		checkSame(t, "P9: Same", true, api.OK)(h.Same(0, x))
		checkSame(t, "P9: Same", true, api.OK)(h.Same(0, x+1))
	}
}

// P8: the calls are for tables, and take handles, keys and values alone.
func TestP8WrongInputs(t *testing.T) {
	h := newHeap(t, 100)
	h.Table(3)
	h.Array(2)
	h.Bytes("some text")
	h.Put(0, num(0), num(1))
	h.Put(0, obj(1), num(1))
	for _, x := range []int{1, 2} {
		checkUnchanged(t, h, "an object of another kind", func() { checkTableCalls(t, h, x, num(0), num(1), api.ErrKind) })
		for _, i := range append([]int{-1, 0, 1, 2}, greatNumbers...) {
			checkValue(t, "P8: Key", none, api.ErrKind)(h.Key(x, i))
		}
	}
	for _, n := range noHandles {
		checkUnchanged(t, h, "no handle", func() {
			checkTableCalls(t, h, n, num(0), num(1), api.ErrStale)
			checkTableCalls(t, h, 0, obj(n), num(1), api.ErrStale)
			checkError(t, "P8: Put of no handle", api.ErrStale, h.Put(0, num(0), obj(n)))
			checkValue(t, "P8: Key of no handle", none, api.ErrStale)(h.Key(n, 0))
		})
	}
	for _, v := range append([]api.Value{none, {Kind: api.Nil, N: 1}, {Kind: api.Nil, N: 9}}, noValues...) {
		checkUnchanged(t, h, "no key", func() { checkTableCalls(t, h, 0, v, num(1), api.ErrValue) })
	}
	for _, v := range noValues {
		checkUnchanged(t, h, "no value", func() { checkError(t, "P8: Put", api.ErrValue, h.Put(0, num(0), v)) })
	}
}

func checkTableCalls(t *testing.T, h *grip.Heap, x int, k api.Value, v api.Value, want api.Errno) {
	t.Helper()
	checkValue(t, "P8: Find", none, want)(h.Find(x, k))
	checkError(t, "P8: Put", want, h.Put(x, k, v))
	checkError(t, "P8: Cut", want, h.Cut(x, k))
}

// P1: the errors of these calls, each with some of those behind it.
func TestP8OrderOfErrors(t *testing.T) {
	h := newHeap(t, 100)
	h.Table(0)
	h.Array(0)
	bad := api.Value{Kind: 3, N: 9}
	checkUnchanged(t, h, "a call with many errors", func() {
		for _, x := range []int{0, 1, 9} {
			checkTableCalls(t, h, x, none, obj(9), api.ErrValue)
			checkTableCalls(t, h, x, bad, obj(9), api.ErrValue)
			checkError(t, "P1: no value, no key", api.ErrValue, h.Put(x, none, bad))
			checkError(t, "P1: no value, no handle in the key", api.ErrValue, h.Put(x, obj(9), bad))
			checkTableCalls(t, h, x, obj(9), num(1), api.ErrStale)
			checkTableCalls(t, h, x, obj(9), obj(9), api.ErrStale)
			checkError(t, "P1: no handle in the value", api.ErrStale, h.Put(x, num(1), obj(9)))
		}
		checkTableCalls(t, h, 9, num(1), num(1), api.ErrStale)
		checkTableCalls(t, h, 1, num(1), num(1), api.ErrKind)
		checkValue(t, "P1: no handle", none, api.ErrStale)(h.Key(9, 9))
		checkValue(t, "P1: another kind", none, api.ErrKind)(h.Key(1, 9))
		checkValue(t, "P1: no such index", none, api.ErrIndex)(h.Key(0, 9))
		checkError(t, "P1: no room", api.ErrFull, h.Put(0, num(9), num(9)))
	})
}

// P8: the examples, as far as these calls go.
func TestP8Example(t *testing.T) {
	h := newHeap(t, 20)
	checkNumber(t, "Array(2)", 0, api.OK)(h.Array(2))
	checkNumber(t, "Bytes", 1, api.OK)(h.Bytes("hello"))
	checkError(t, "Set(0, 1, {Obj 1})", api.OK, h.Set(0, 1, obj(1)))
	checkWords(t, h, 65538, 0, 0, 2, 5, 131077, 478560413032)
	checkNumber(t, "Place(1)", 5, api.OK)(h.Place(1))
	checkValue(t, "Get(0, 1)", obj(2), api.OK)(h.Get(0, 1))
	checkSame(t, "Same(1, 2)", true, api.OK)(h.Same(1, 2))
	checkValue(t, "Get(0, 0)", none, api.OK)(h.Get(0, 0))
	checkValue(t, "Get(0, 2)", none, api.ErrIndex)(h.Get(0, 2))
	checkNumber(t, "Table(1)", 3, api.OK)(h.Table(1))
	checkError(t, "Put(3, {Int -7}, {Obj 3})", api.OK, h.Put(3, num(-7), obj(3)))
	checkWords(t, h, 65538, 0, 0, 2, 5, 131077, 478560413032, 196609, 1, 1, -7, 2, 7)
	checkError(t, "Put(3, {Int 8}, {Nil 0})", api.ErrFull, h.Put(3, num(8), none))
	checkValue(t, "Find(3, {Int -7})", obj(4), api.OK)(h.Find(3, num(-7)))
	checkValue(t, "Find(3, {Obj 3})", none, api.ErrNone)(h.Find(3, obj(3)))
	checkValue(t, "Find(3, {Nil 0})", none, api.ErrValue)(h.Find(3, none))
	checkValue(t, "Key(3, 0)", num(-7), api.OK)(h.Key(3, 0))
}
