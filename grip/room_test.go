package grip_test

import (
	"fmt"
	"slices"
	"strings"
	"testing"

	"grip/api"
	"grip/grip"
)

// maker is a call that makes an object of need words, on a heap where lay has
// answered first.
type maker struct {
	what string
	need int
	call func(h *grip.Heap, first int) (int, api.Errno)
}

var makers = []maker{
	{"Array(0)", 1, func(h *grip.Heap, _ int) (int, api.Errno) { return h.Array(0) }},
	{"Array(4)", 9, func(h *grip.Heap, _ int) (int, api.Errno) { return h.Array(4) }},
	{"Array(16)", 33, func(h *grip.Heap, _ int) (int, api.Errno) { return h.Array(16) }},
	{"Bytes of 0", 1, func(h *grip.Heap, _ int) (int, api.Errno) { return h.Bytes("") }},
	{"Bytes of 8", 2, func(h *grip.Heap, _ int) (int, api.Errno) { return h.Bytes("12345678") }},
	{"Bytes of 9", 3, func(h *grip.Heap, _ int) (int, api.Errno) { return h.Bytes("123456789") }},
	{"Bytes of 64", 9, func(h *grip.Heap, _ int) (int, api.Errno) { return h.Bytes(strings.Repeat("12345678", 8)) }},
	{"Table(0)", 2, func(h *grip.Heap, _ int) (int, api.Errno) { return h.Table(0) }},
	{"Table(8)", 34, func(h *grip.Heap, _ int) (int, api.Errno) { return h.Table(8) }},
	{"Join of 10", 3, func(h *grip.Heap, first int) (int, api.Errno) { return h.Join(first, first) }},
	{"Copy of bytes", 2, func(h *grip.Heap, first int) (int, api.Errno) { return h.Copy(first) }},
	{"Copy of an array", 5, func(h *grip.Heap, first int) (int, api.Errno) { return h.Copy(first + 1) }},
	{"Copy of a table", 6, func(h *grip.Heap, first int) (int, api.Errno) { return h.Copy(first + 2) }},
}

// laid is how many words the objects of lay have.
const laid = 13

// lay makes a string, an array and a table that hold each other, and tells the
// first of their three handles. If gone is true, an object of one word lies
// ahead of them that cannot be reached. The next handle will be 32.
func lay(h *grip.Heap, gone bool) int {
	h.Open()
	first := 0
	if gone {
		h.Array(0)
		first = 1
	}
	h.Bytes("12345")
	h.Array(2)
	h.Table(1)
	h.Set(first+1, 0, obj(first+2))
	h.Set(first+1, 1, num(first))
	h.Put(first+2, obj(first+1), obj(first))
	for i := 0; i < 3; i++ {
		h.Escape(first + i)
	}
	h.Close(1)
	return first + 3
}

// checkLaid looks at the words of what lay made, which lie from at on.
func checkLaid(t *testing.T, h *grip.Heap, first int, at int) {
	t.Helper()
	want := packed("12345")
	want = append(want, 65538, 2, at+7, 1, first-3)
	want = append(want, tableWords(1, [4]int{2, at + 2, 2, at})...)
	l, e := h.Words()
	if e != api.OK || len(l) < at+laid || !slices.Equal(l[at:at+laid], want) {
		t.Errorf("Words = %v, error %d; want %v at %d", l, e, want, at)
	}
	checkPlaces(t, h, []int{first, first + 1, first + 2}, at, at+2, at+7)
}

// P13: without anything gone the words may be used up to the last; one more is
// ErrMemory.
func TestP13Limit(t *testing.T) {
	for _, c := range makers {
		h := newHeap(t, laid+c.need)
		first := lay(h, false)
		checkNumber(t, "P13: "+c.what, 32, api.OK)(c.call(h, first))
		checkNumber(t, "P13: its place", laid, api.OK)(h.Place(32))
		checkNumber(t, "P13: words", laid+c.need, api.OK)(count(h))
		checkLaid(t, h, first, 0)

		h = newHeap(t, laid+c.need-1)
		first = lay(h, false)
		checkLaid(t, h, first, 0)
		checkNumber(t, "P13: "+c.what+" with a word too few", 0, api.ErrMemory)(c.call(h, first))
		checkNumber(t, "P13: once more", 0, api.ErrPoisoned)(c.call(h, first))
		checkPoisoned(t, h)
	}
}

// P13: what is gone stays as long as there is room, and makes room when there
// is none; one word more is ErrMemory.
func TestP13LimitWithCollecting(t *testing.T) {
	for _, c := range makers {
		h := newHeap(t, 1+laid+c.need)
		first := lay(h, true)
		checkNumber(t, "P13: "+c.what+" with room", 32, api.OK)(c.call(h, first))
		checkNumber(t, "P13: its place", 1+laid, api.OK)(h.Place(32))
		checkLaid(t, h, first, 1)

		h = newHeap(t, laid+c.need)
		first = lay(h, true)
		checkLaid(t, h, first, 1)
		checkNumber(t, "P13: "+c.what+" with what is gone", 32, api.OK)(c.call(h, first))
		checkNumber(t, "P13: its place", laid, api.OK)(h.Place(32))
		checkNumber(t, "P13: words", laid+c.need, api.OK)(count(h))
		checkLaid(t, h, first, 0)

		if c.need < 2 {
			continue // there would be no room for what is gone
		}
		h = newHeap(t, laid+c.need-1)
		first = lay(h, true)
		checkNumber(t, "P13: "+c.what+" with a word too few", 0, api.ErrMemory)(c.call(h, first))
		checkPoisoned(t, h)
	}
}

// P13: the same with a flag that is true for this object: what is gone goes
// though there is room; and where there is none yet, once is as good as twice.
func TestP13LimitWithFlag(t *testing.T) {
	flags := []bool{false, false, false, false, true}
	for _, c := range makers {
		for spare := 1; spare >= 0; spare-- {
			h := newHeap(t, laid+c.need+spare, flags...)
			first := lay(h, true)
			checkLaid(t, h, first, 1)
			checkNumber(t, "P13: "+c.what+" with a flag", 32, api.OK)(c.call(h, first))
			checkNumber(t, "P13: its place", laid, api.OK)(h.Place(32))
			checkNumber(t, "P13: words", laid+c.need, api.OK)(count(h))
			checkLaid(t, h, first, 0)
		}
		if c.need < 2 {
			continue
		}
		h := newHeap(t, laid+c.need-1, flags...)
		first := lay(h, true)
		checkNumber(t, "P13: "+c.what+" with a flag and a word too few", 0, api.ErrMemory)(c.call(h, first))
		checkPoisoned(t, h)
	}
}

// makeGone makes an object of one word that is gone at once, and tells where
// it lay.
func makeGone(h *grip.Heap) (int, api.Errno) {
	n, e := h.Open()
	if e != api.OK {
		return 0, e
	}
	x, e := h.Array(0)
	if e != api.OK {
		return 0, e
	}
	place, e := h.Place(x)
	h.Close(n)
	return place, e
}

// placeOfGone tells where makeGone's k-th object lies on a heap that has no
// other, and words enough.
func placeOfGone(flags []bool, k int) int {
	place := 0
	for i := 1; i <= k; i++ {
		place++
		if len(flags) > 0 && flags[i%len(flags)] {
			place = 0
		}
	}
	return place
}

// P13: the flag's number is that of the object modulo how many flags there
// are, with few and many flags, with more objects than flags.
func TestP13NumbersOfFlags(t *testing.T) {
	for _, length := range []int{0, 1, 2, 3, 7, 32, 63, 64} {
		for only := -1; only < length; only++ { // -1: none is true
			flags := make([]bool, length)
			if only >= 0 {
				flags[only] = true
			}
			h := newHeap(t, 512, flags...)
			for k := 0; k < 140; k++ {
				checkNumber(t, fmt.Sprintf("P13: %d flags, number %d true, object %d", length, only, k), placeOfGone(flags, k), api.OK)(makeGone(h))
			}
		}
	}
	mixed := []bool{true, true, false, false, true, false, false, false}
	h := newHeap(t, 512, mixed...)
	for k := 0; k < 100; k++ {
		checkNumber(t, "P13: mixed flags", placeOfGone(mixed, k), api.OK)(makeGone(h))
	}
}

// P13: 64 flags, and 65 objects: the 65th has the first flag.
func TestP13MoreObjectsThanFlags(t *testing.T) {
	flags := make([]bool, api.MaxFlags)
	flags[0] = true
	h := newHeap(t, 512, flags...)
	for k := 0; k < 64; k++ {
		checkNumber(t, "P13: its place", k, api.OK)(makeGone(h))
	}
	checkNumber(t, "P13: the 65th", 0, api.OK)(makeGone(h))
	checkNumber(t, "P13: the 66th", 1, api.OK)(makeGone(h))
}

// P13: each call that makes an object takes one flag.
func TestP13CallsThatTakeAFlag(t *testing.T) {
	for _, c := range makers {
		h := newHeap(t, 512, false, false, false, false, false, true)
		first := lay(h, true)
		h.Open()
		c.call(h, first)
		h.Close(1)
		checkNumber(t, "P13: behind "+c.what, laid, api.OK)(makeGone(h))
	}
}

// P13, P1: calls that are refused, and those that make no object, take no
// flag, and collect nothing whatever the flag says.
func TestP13CallsThatTakeNoFlag(t *testing.T) {
	for _, flags := range [][]bool{{true}, {false, false, false, false, true, false}} {
		h := newHeap(t, 512, flags...)
		x := lay(h, true)
		long := strings.Repeat("a", 65)
		h.Open()
		checkUnchanged(t, h, "what is refused, or changes nothing", func() {
			h.Array(17)
			h.Table(-1)
			h.Bytes(long)
			h.Join(x, x+1)
			h.Join(x+2, x)
			h.Join(x, 99)
			h.Copy(99)
			h.Kind(x)
			h.Len(x)
			h.Text(x)
			h.Place(x)
			h.Set(x+1, 1, num(x-3))
			h.Put(x+2, obj(x+1), obj(x))
			h.Cut(x+2, num(4))
			h.Same(x, x+1)
			h.Escape(99)
			h.Keep(99)
			h.Release(x)
			h.Close(5)
		})
		h.Get(x+1, 0)
		h.Find(x+2, obj(x+1))
		h.Key(x+2, 0)
		h.Escape(x)
		y, _ := h.Keep(x)
		h.Release(y)
		h.Close(1)
		checkNumber(t, "P6: words", 1+laid, api.OK)(count(h))
		checkNumber(t, "P13: the next object", laid, api.OK)(makeGone(h))
	}
}

// P13, P1: with all slots taken nothing takes a flag, and nothing is collected.
func TestP13AllSlotsTaken(t *testing.T) {
	for _, flags := range [][]bool{nil, {true}, {false, false, false, false, true}} {
		for _, spare := range []int{0, 1, 100} {
			h := newHeap(t, 1+laid+spare, flags...)
			first := lay(h, true)
			for x := 0; x < api.MaxHandles-3; x++ {
				h.Keep(first)
			}
			checkUnchanged(t, h, "a call with all slots taken", func() {
				for _, c := range makers {
					checkNumber(t, "P13: "+c.what, 0, api.ErrHandles)(c.call(h, first))
				}
			})
			checkLaid(t, h, first, 1)
			h.Release(32)
			place := laid
			if flags == nil && spare > 0 {
				place = 1 + laid
			}
			checkNumber(t, "P13: Array(0)", 64, api.OK)(h.Array(0))
			checkPlaces(t, h, []int{64}, place)
		}
	}
}

// P13: a collection by Collect takes no flag, and one because words run out
// none more.
func TestP13CollectingTakesNoFlag(t *testing.T) {
	h := newHeap(t, 4, false, false, false, false, false, false, true)
	for k, want := range []int{0, 1, 2, 3, 0, 1, 0, 1, 2, 3, 0} {
		checkNumber(t, fmt.Sprintf("P13: object %d", k), want, api.OK)(makeGone(h))
	}
	h = newHeap(t, 100, false, false, false, true)
	for k, want := range []int{0, 1, 0, 0, 1, 2, 0, 0} {
		if k%4 == 2 {
			h.Collect()
			h.Collect()
		}
		checkNumber(t, fmt.Sprintf("P13: object %d", k), want, api.OK)(makeGone(h))
	}
}

// P13: the new object is no matter to the collecting that makes its room, and
// words that were collected come back as noughts.
func TestP13NewWordsAreNoughts(t *testing.T) {
	for _, flags := range [][]bool{nil, {true}} {
		h := newHeap(t, 30, flags...)
		for round := 0; round < 5; round++ {
			h.Open()
			x, _ := h.Table(3)
			h.Put(x, num(-1), num(-2))
			h.Put(x, obj(x), num(-3))
			h.Put(x, num(-5), obj(x))
			h.Close(1)
			h.Open()
			y, e := h.Array(12)
			if l, _ := h.Words(); e != api.OK || slices.ContainsFunc(l[1:], func(n int) bool { return n != 0 }) {
				t.Errorf("P13: round %d: Words = %v, error %d", round, l, e)
			}
			checkPlaces(t, h, []int{y}, 0)
			h.Set(y, 3, num(77))
			h.Close(1)
		}
	}
}

// P13: the flags of these calls, which leave nothing unreachable, change
// nothing.
func TestP13FlagsWithoutAnythingGone(t *testing.T) {
	plain := newHeap(t, 60)
	flagged := newHeap(t, 60, true, false, true)
	for _, h := range []*grip.Heap{plain, flagged} {
		h.Array(2)
		h.Bytes("hello")
		h.Table(1)
		h.Array(0)
		h.Bytes("0123456789")
	}
	words, list := look(plain)
	wordsThen, listThen := look(flagged)
	if !slices.Equal(words, wordsThen) || !slices.Equal(list, listThen) {
		t.Errorf("P13: %v with flags, %v without", wordsThen, words)
	}
}

// P13: a flag moves what lies in another order than the slots, though nothing
// is gone.
func TestP13FlagMovesByOrder(t *testing.T) {
	for _, flag := range []bool{false, true} {
		h := newHeap(t, 60, false, false, false, flag)
		h.Bytes("a")
		h.Keep(0)
		h.Array(1)
		h.Set(2, 0, obj(0))
		h.Release(1)
		checkNumber(t, "P4: Array", 33, api.OK)(h.Array(0))
		checkWords(t, h, 131073, 'a', 65537, 2, 0, 65536)
		checkNumber(t, "P4: Table", 3, api.OK)(h.Table(0))
		if flag {
			checkWords(t, h, 131073, 'a', 65536, 65537, 2, 0, 196608, 0)
		} else {
			checkWords(t, h, 131073, 'a', 65537, 2, 0, 65536, 196608, 0)
		}
	}
}

// The document's examples of words that run out, and of flags.
func TestP13Examples(t *testing.T) {
	h := newHeap(t, 9)
	checkNumber(t, "Array(4)", 0, api.OK)(h.Array(4))
	checkNumber(t, "Array(0)", 0, api.ErrMemory)(h.Array(0))
	checkNumber(t, "Kind(0)", 0, api.ErrPoisoned)(h.Kind(0))
	h = newHeap(t, 8)
	checkNumber(t, "Array(4)", 0, api.ErrMemory)(h.Array(4))
	h = newHeap(t, 9)
	checkNumber(t, "Open", 1, api.OK)(h.Open())
	checkNumber(t, "Array(4)", 0, api.OK)(h.Array(4))
	checkError(t, "Close(1)", api.OK, h.Close(1))
	checkNumber(t, "Array(4)", 32, api.OK)(h.Array(4))
	checkWords(t, h, 65540, 0, 0, 0, 0, 0, 0, 0, 0)
	for _, flags := range [][]bool{{false, true}, {}} {
		h = newHeap(t, 18, flags...)
		h.Open()
		h.Array(4)
		h.Close(1)
		checkNumber(t, "Array(4)", 32, api.OK)(h.Array(4))
		checkPlaces(t, h, []int{32}, 9-9*len(flags)/2)
	}
}
