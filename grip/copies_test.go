package grip_test

import (
	"strings"
	"testing"

	"grip/api"
	"grip/grip"
)

// text is so many bytes of many sorts, the first of them with the value from.
func text(from int, length int) string {
	b := make([]byte, length)
	for i := range b {
		b[i] = byte(from + 37*i)
	}
	return string(b)
}

// P14: all pairs of lengths that may be joined, and those of one byte more.
func TestP14JoinLengths(t *testing.T) {
	for total := 0; total <= api.MaxBytes+1; total++ {
		for length := max(0, total-api.MaxBytes); length <= min(total, api.MaxBytes); length++ {
			h := newHeap(t, 100)
			one, other := text(200, length), text(7, total-length)
			h.Bytes(one)
			h.Bytes(other)
			if total > api.MaxBytes {
				checkUnchanged(t, h, "Join", func() { checkNumber(t, "P14: Join of 65", 0, api.ErrSize)(h.Join(0, 1)) })
				continue
			}
			checkNumber(t, "P14: Join", 2, api.OK)(h.Join(0, 1))
			checkText(t, "P14: what is joined", one+other, api.OK)(h.Text(2))
			checkNumber(t, "P5: Len", total, api.OK)(h.Len(2))
			checkNumber(t, "P5: Kind", api.Bytes, api.OK)(h.Kind(2))
			checkText(t, "P14: the first", one, api.OK)(h.Text(0))
			checkText(t, "P14: the second", other, api.OK)(h.Text(1))
			want := append(packed(one), packed(other)...)
			checkWords(t, h, append(want, packed(one+other)...)...)
		}
	}
}

// P14: a string with itself, by one handle and by two; 32 bytes may be, 33 not.
func TestP14JoinWithItself(t *testing.T) {
	for length := 0; length <= api.MaxBytes; length++ {
		h := newHeap(t, 100)
		s := text(1, length)
		h.Bytes(s)
		h.Keep(0)
		for _, y := range []int{0, 1} {
			if 2*length > api.MaxBytes {
				checkUnchanged(t, h, "Join", func() { checkNumber(t, "P14: Join", 0, api.ErrSize)(h.Join(0, y)) })
				continue
			}
			checkNumber(t, "P14: Join", 2+y, api.OK)(h.Join(0, y))
			checkText(t, "P14: what is joined", s+s, api.OK)(h.Text(2 + y))
		}
	}
}

// P14: the order of the two counts; a string joined with an empty one is
// another object with the same bytes; each Join makes one of its own.
func TestP14JoinMakesAnother(t *testing.T) {
	h := newHeap(t, 100)
	h.Bytes("ab")
	h.Bytes("cd")
	h.Bytes("")
	for x, c := range []struct {
		x, y int
		want string
	}{{0, 1, "abcd"}, {1, 0, "cdab"}, {0, 2, "ab"}, {2, 0, "ab"}, {2, 2, ""}, {0, 1, "abcd"}, {3, 4, "abcdcdab"}} {
		checkNumber(t, "P14: Join", 3+x, api.OK)(h.Join(c.x, c.y))
		checkText(t, "P14: what is joined", c.want, api.OK)(h.Text(3 + x))
		for y := 0; y < 3+x; y++ {
			checkSame(t, "P9: Same", false, api.OK)(h.Same(3+x, y))
		}
	}
}

// P14: the new handles belong to the innermost scope.
func TestP14ScopeOfHandles(t *testing.T) {
	h := newHeap(t, 100)
	h.Bytes("s")
	h.Keep(0)
	h.Open()
	h.Open()
	checkNumber(t, "P14: Join", 2, api.OK)(h.Join(0, 1))
	checkNumber(t, "P14: Copy", 3, api.OK)(h.Copy(1))
	checkError(t, "P11: Release: it is not kept", api.ErrScope, h.Release(2))
	checkError(t, "P11: Release: it is not kept", api.ErrScope, h.Release(3))
	h.Close(2)
	checkEnded(t, h, 2, 3)
	checkNumber(t, "P14: Join", 34, api.OK)(h.Join(0, 1))
	checkNumber(t, "P14: Copy", 35, api.OK)(h.Copy(1))
	h.Close(1)
	checkEnded(t, h, 2, 3, 34, 35)
	checkNumber(t, "P14: Join in scope 0", 66, api.OK)(h.Join(0, 1))
	checkNumber(t, "P14: Copy in scope 0", 67, api.OK)(h.Copy(1))
	h.Open()
	h.Close(1)
	checkLive(t, h, 0, 1, 66, 67)
}

// P14: an array is copied with all its values, at each length; then each of
// the two is changed for itself.
func TestP14CopyOfArrays(t *testing.T) {
	for n := 0; n <= api.MaxArray; n++ {
		h := newHeap(t, 100)
		h.Array(n)
		h.Bytes("b")
		want := []int{65536 + n}
		for i := 0; i < n; i++ {
			v := []api.Value{num(-i), obj(1), none, num(1 << 62)}[i%4]
			h.Set(0, i, v)
			if v == obj(1) {
				v.N = 1 + 2*n
			}
			want = append(want, v.Kind, v.N)
		}
		checkNumber(t, "P14: Copy", 2, api.OK)(h.Copy(0))
		whole := append(append(append([]int{}, want...), packed("b")...), want...)
		checkWords(t, h, whole...)
		checkSame(t, "P9: Same", false, api.OK)(h.Same(0, 2))
		if n < 2 {
			continue
		}
		checkValue(t, "P14: what the copy holds", obj(3), api.OK)(h.Get(2, 1))
		checkSame(t, "P14: it is the same", true, api.OK)(h.Same(3, 1))
		h.Set(2, 0, num(5))
		h.Set(0, 1, num(6))
		checkValue(t, "P14: the first", num(0), api.OK)(h.Get(0, 0))
		checkValue(t, "P14: the copy", num(5), api.OK)(h.Get(2, 0))
		checkValue(t, "P14: the first", num(6), api.OK)(h.Get(0, 1))
		checkValue(t, "P14: the copy", obj(4), api.OK)(h.Get(2, 1))
	}
}

// P14: strings of each length.
func TestP14CopyOfBytes(t *testing.T) {
	for n := 0; n <= api.MaxBytes; n++ {
		h := newHeap(t, 100)
		s := text(128+n, n)
		h.Bytes(s)
		checkNumber(t, "P14: Copy", 1, api.OK)(h.Copy(0))
		checkText(t, "P14: Text of the copy", s, api.OK)(h.Text(1))
		checkWords(t, h, append(packed(s), packed(s)...)...)
		checkSame(t, "P9: Same", false, api.OK)(h.Same(0, 1))
	}
}

// P14: tables of each room and with each number of entries; the copy has the
// same room, and is changed for itself.
func TestP14CopyOfTables(t *testing.T) {
	for room := 0; room <= api.MaxTable; room++ {
		for entries := 0; entries <= room; entries++ {
			h := numbered(t, room, entries)
			rows := [][4]int{}
			for i := 0; i < entries; i++ {
				rows = append(rows, [4]int{1, 10 * i, 1, 10*i + 1})
			}
			same := tableWords(room, rows...)
			checkNumber(t, "P14: Copy", 1, api.OK)(h.Copy(0))
			checkWords(t, h, append(append([]int{}, same...), same...)...)
			for i := entries; i < room; i++ {
				checkError(t, "P14: Put into the copy", api.OK, h.Put(1, num(10*i), num(5)))
				rows = append(rows, [4]int{1, 10 * i, 1, 5})
			}
			checkError(t, "P14: Put into the full copy", api.ErrFull, h.Put(1, num(7), num(5)))
			checkNumber(t, "P14: Len of the first", entries, api.OK)(h.Len(0))
			checkWords(t, h, append(append([]int{}, same...), tableWords(room, rows...)...)...)
			for i := 0; i < entries; i++ {
				checkError(t, "P14: Cut from the first", api.OK, h.Cut(0, num(10*i)))
			}
			checkWords(t, h, append(tableWords(room), tableWords(room, rows...)...)...)
		}
	}
}

// P14: a table's keys and values that are objects are the same in the copy,
// the table itself among them.
func TestP14CopyOfATableWithObjects(t *testing.T) {
	h := newHeap(t, 100)
	h.Table(3)
	h.Bytes("k")
	h.Put(0, obj(1), obj(0))
	h.Put(0, obj(0), obj(1))
	checkNumber(t, "P14: Copy", 2, api.OK)(h.Copy(0))
	same := tableWords(3, [4]int{2, 14, 2, 0}, [4]int{2, 0, 2, 14})
	checkWords(t, h, append(append(append([]int{}, same...), packed("k")...), same...)...)
	checkValue(t, "P14: Find of the first in the copy", obj(3), api.OK)(h.Find(2, obj(0)))
	checkSame(t, "P9: Same", true, api.OK)(h.Same(3, 1))
	checkValue(t, "P14: the copy is no key", none, api.ErrNone)(h.Find(2, obj(2)))
	checkValue(t, "P14: nor of the first", none, api.ErrNone)(h.Find(0, obj(2)))
	checkValue(t, "P14: Find of the string", obj(4), api.OK)(h.Find(2, obj(1)))
	checkSame(t, "P9: Same: it is the first", true, api.OK)(h.Same(4, 0))
}

// P14: the copy of an array that holds itself holds the first one, not itself;
// and the copy of that copy too.
func TestP14CopyOfWhatHoldsItself(t *testing.T) {
	for _, flags := range [][]bool{nil, {true}} {
		h := newHeap(t, 100, flags...)
		h.Open()
		h.Array(0)
		h.Close(1)
		checkNumber(t, "P4: Array", 32, api.OK)(h.Array(2))
		h.Set(32, 0, obj(32))
		h.Set(32, 1, obj(32))
		checkNumber(t, "P14: Copy", 1, api.OK)(h.Copy(32))
		checkNumber(t, "P14: Copy of the copy", 2, api.OK)(h.Copy(1))
		h.Collect()
		checkWords(t, h, 65538, 2, 0, 2, 0, 65538, 2, 0, 2, 0, 65538, 2, 0, 2, 0)
		checkValue(t, "P7: Get", obj(3), api.OK)(h.Get(1, 0))
		checkSame(t, "P9: Same", true, api.OK)(h.Same(3, 32))
		checkSame(t, "P9: Same", false, api.OK)(h.Same(3, 1))
	}
}

// moved makes a heap on which the making of the next object, the fifth, moves
// all: what lies first is gone, and the slots turn the order round. The string
// "xyz" has the handle 32, "0123456789" the handle 4.
func moved(t *testing.T, limit int, flags ...bool) *grip.Heap {
	t.Helper()
	h := newHeap(t, limit, flags...)
	h.Open()
	h.Array(3)            // 0, at place 0: gone
	h.Bytes("0123456789") // 1, at place 7
	h.Table(2)            // 2, at place 10
	h.Keep(2)             // 3
	h.Keep(1)             // 4
	h.Put(2, obj(1), obj(2))
	h.Close(1)
	checkNumber(t, "P4: Bytes", 32, api.OK)(h.Bytes("xyz")) // at place 20
	h.Put(3, obj(32), num(20))
	want := append([]int{65539, 0, 0, 0, 0, 0, 0}, packed("0123456789")...)
	want = append(want, tableWords(2, [4]int{2, 7, 2, 10}, [4]int{2, 20, 1, 20})...)
	checkWords(t, h, append(want, packed("xyz")...)...)
	return h
}

// checkMoved looks at the words behind the fifth object's making.
func checkMoved(t *testing.T, h *grip.Heap, words ...int) {
	t.Helper()
	want := packed("xyz")
	want = append(want, tableWords(2, [4]int{2, 12, 2, 2}, [4]int{2, 0, 1, 20})...)
	want = append(want, packed("0123456789")...)
	checkWords(t, h, append(want, words...)...)
	checkPlaces(t, h, []int{32, 3, 4, 33}, 0, 2, 12, 15)
}

// P14, P13: Join and Copy when a flag, or words that run out, move what they
// are made of.
func TestP14WhatIsCopiedMoves(t *testing.T) {
	flags := []bool{false, false, false, false, true}
	for _, c := range []struct {
		what string
		call func(h *grip.Heap) (int, api.Errno)
		want []int
	}{
		{"Join", func(h *grip.Heap) (int, api.Errno) { return h.Join(32, 4) }, packed("xyz0123456789")},
		{"Join", func(h *grip.Heap) (int, api.Errno) { return h.Join(4, 32) }, packed("0123456789xyz")},
		{"Join", func(h *grip.Heap) (int, api.Errno) { return h.Join(4, 4) }, packed("01234567890123456789")},
		{"Copy of a table", func(h *grip.Heap) (int, api.Errno) { return h.Copy(3) }, tableWords(2, [4]int{2, 12, 2, 2}, [4]int{2, 0, 1, 20})},
		{"Copy of bytes", func(h *grip.Heap) (int, api.Errno) { return h.Copy(4) }, packed("0123456789")},
		{"Copy of bytes", func(h *grip.Heap) (int, api.Errno) { return h.Copy(32) }, packed("xyz")},
	} {
		for spare := 0; spare < 7; spare++ {
			limit := max(22, 15+len(c.want)+spare)
			if 22+len(c.want) > limit {
				h := moved(t, limit)
				checkNumber(t, "P14: "+c.what, 33, api.OK)(c.call(h))
				checkMoved(t, h, c.want...)
			}
			h := moved(t, limit, flags...)
			checkNumber(t, "P14: "+c.what+" with a flag", 33, api.OK)(c.call(h))
			checkMoved(t, h, c.want...)
		}
		h := moved(t, 22+len(c.want))
		checkNumber(t, "P14: "+c.what+" with room", 33, api.OK)(c.call(h))
		checkPlaces(t, h, []int{32, 3, 4, 33}, 20, 10, 7, 22)
	}
}

// P14, P1: other kinds, in either place of Join; Copy is for all kinds.
func TestP14OtherKinds(t *testing.T) {
	h := newHeap(t, 100)
	h.Bytes("b")
	h.Array(2)
	h.Table(1)
	checkUnchanged(t, h, "Join", func() {
		for _, x := range []int{1, 2} {
			checkNumber(t, "P14: Join", 0, api.ErrKind)(h.Join(x, 0))
			checkNumber(t, "P14: Join", 0, api.ErrKind)(h.Join(0, x))
			checkNumber(t, "P14: Join", 0, api.ErrKind)(h.Join(x, 1))
			checkNumber(t, "P14: Join", 0, api.ErrKind)(h.Join(x, 2))
		}
	})
	for x := 0; x < 3; x++ {
		checkNumber(t, "P14: Copy", 3+x, api.OK)(h.Copy(x))
		kind, _ := h.Kind(x)
		checkNumber(t, "P14: Kind of the copy", kind, api.OK)(h.Kind(3 + x))
	}
}

// P1: handles that are not live, ahead of kinds.
func TestP14NoHandles(t *testing.T) {
	h := newHeap(t, 100)
	h.Array(2)
	h.Bytes("b")
	h.Open()
	h.Bytes("ended")
	h.Close(1)
	for _, n := range append([]int{2}, noHandles...) {
		checkUnchanged(t, h, "no handle", func() {
			for x := 0; x < 2; x++ {
				checkNumber(t, "P14: Join with no handle", 0, api.ErrStale)(h.Join(x, n))
				checkNumber(t, "P14: Join of no handle", 0, api.ErrStale)(h.Join(n, x))
			}
			checkNumber(t, "P14: Join of no handles", 0, api.ErrStale)(h.Join(n, n))
			checkNumber(t, "P14: Copy of no handle", 0, api.ErrStale)(h.Copy(n))
		})
	}
	checkNumber(t, "P14: the next handle", 34, api.OK)(h.Copy(1))
}

// P1: ErrKind, ErrSize, ErrHandles, ErrMemory: each ahead of those behind it.
func TestP14OrderOfErrors(t *testing.T) {
	h := newHeap(t, 23)
	h.Bytes(strings.Repeat("a", 33))
	h.Bytes(strings.Repeat("b", 32))
	h.Array(4)
	checkUnchanged(t, h, "a call with many errors", func() {
		checkNumber(t, "P1: no handle", 0, api.ErrStale)(h.Join(2, 99))
		checkNumber(t, "P1: another kind", 0, api.ErrKind)(h.Join(0, 2))
		checkNumber(t, "P1: too many bytes", 0, api.ErrSize)(h.Join(0, 1))
		checkNumber(t, "P1: too many bytes", 0, api.ErrSize)(h.Join(0, 0))
	})
	for x := 3; x < api.MaxHandles; x++ {
		h.Keep(0)
	}
	checkUnchanged(t, h, "a call with all slots taken", func() {
		checkNumber(t, "P1: no handle", 0, api.ErrStale)(h.Join(2, 99))
		checkNumber(t, "P1: no handle", 0, api.ErrStale)(h.Copy(99))
		checkNumber(t, "P1: another kind", 0, api.ErrKind)(h.Join(2, 0))
		checkNumber(t, "P1: too many bytes", 0, api.ErrSize)(h.Join(0, 1))
		checkNumber(t, "P1: no slot", 0, api.ErrHandles)(h.Join(1, 1))
		for x := 0; x < 3; x++ {
			checkNumber(t, "P1: no slot", 0, api.ErrHandles)(h.Copy(x))
		}
	})
	h.Release(31)
	checkNumber(t, "P1: no word", 0, api.ErrMemory)(h.Join(1, 1))
	checkNumber(t, "P1: memory has run out", 0, api.ErrPoisoned)(h.Join(2, 99))
	checkNumber(t, "P1: memory has run out", 0, api.ErrPoisoned)(h.Copy(99))
}

// P14, P1: the last slot is good for a Join and for a Copy.
func TestP14LastSlot(t *testing.T) {
	h := newHeap(t, 100)
	h.Bytes("b")
	for x := 1; x < api.MaxHandles-1; x++ {
		h.Keep(0)
	}
	checkNumber(t, "P14: Join", 31, api.OK)(h.Join(0, 30))
	checkText(t, "P14: Text", "bb", api.OK)(h.Text(31))
	checkNumber(t, "P14: Copy", 0, api.ErrHandles)(h.Copy(31))
	h.Release(7)
	checkNumber(t, "P14: Copy", 39, api.OK)(h.Copy(31))
	checkText(t, "P14: Text", "bb", api.OK)(h.Text(39))
}

// The document's examples of Join and Copy.
func TestP14Examples(t *testing.T) {
	h := newHeap(t, 100)
	h.Bytes("ab")
	h.Bytes("cd")
	checkNumber(t, "Join", 2, api.OK)(h.Join(0, 1))
	checkText(t, "Text", "abcd", api.OK)(h.Text(2))
	h.Array(3)
	h.Set(3, 0, num(4))
	h.Set(3, 2, obj(2))
	checkNumber(t, "Copy", 4, api.OK)(h.Copy(3))
	checkSame(t, "Same", false, api.OK)(h.Same(3, 4))
	checkValue(t, "Get", num(4), api.OK)(h.Get(4, 0))
	checkValue(t, "Get", none, api.OK)(h.Get(4, 1))
	checkValue(t, "Get", obj(5), api.OK)(h.Get(4, 2))
	checkSame(t, "Same", true, api.OK)(h.Same(5, 2))
}
