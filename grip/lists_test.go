package grip_test

import (
	"slices"
	"testing"

	"grip/api"
)

// P2: what is handed in is not written into and not kept: flags that are
// changed behind New, or ahead of each object, change nothing.
func TestP2FlagsHandedIn(t *testing.T) {
	given := []bool{false, false, true, false, true, false, false}
	room := slices.Clone(given)
	h := newHeap(t, 50, room[:5]...)
	if !slices.Equal(room, given) {
		t.Errorf("P2: New wrote into the flags: %v", room)
	}
	for k := 0; k < 20; k++ {
		for i := range room {
			room[i] = !given[i] || k%3 == 0
		}
		changed := slices.Clone(room)
		checkNumber(t, "P2: the place of an object", placeOfGone(given[:5], k), api.OK)(makeGone(h))
		if !slices.Equal(room, changed) {
			t.Fatalf("P2: a later call wrote into the flags: %v, was %v", room, changed)
		}
	}
}

// P2: two heaps can be given one list.
func TestP2FlagsOfTwoHeaps(t *testing.T) {
	flags := []bool{false, true, false}
	one := newHeap(t, 50, flags...)
	other := newHeap(t, 50, flags...)
	for k := 0; k < 20; k++ {
		checkNumber(t, "P2: the place of an object", placeOfGone(flags, k), api.OK)(makeGone(one))
		if k%2 == 0 {
			checkNumber(t, "P2: on the other heap", placeOfGone(flags, k/2), api.OK)(makeGone(other))
		}
	}
}

// P2: the list that Words answers is the caller's, with its spare room.
func TestP2WordsAreTheCallers(t *testing.T) {
	h := newHeap(t, 100)
	h.Array(2)
	h.Bytes("hello")
	want, wantList := look(h)
	for round := 0; round < 3; round++ {
		l, _ := h.Words()
		l = l[:cap(l)]
		for i := range l {
			l[i] = -77
		}
	}
	words, list := look(h)
	if !slices.Equal(words, want) || !slices.Equal(list, wantList) {
		t.Errorf("P2: Words = %v after writing into what it answered, want %v", words, want)
	}
}

// P2: what stands in the spare room does not come out in a later object.
func TestP2SpareRoomIsNotReused(t *testing.T) {
	h := newHeap(t, 100)
	want := []int{}
	for x := 0; x < 12; x++ {
		l, _ := h.Words()
		for i := 0; i < 40; i++ {
			l = append(l, -77)
		}
		h.Array(1)
		want = append(want, api.Head+1, 0, 0)
		checkWords(t, h, want...)
	}
}

// P2: no later call writes into a list that Words answered.
func TestP2LaterCallsLeaveWordsAlone(t *testing.T) {
	h := newHeap(t, 512)
	lists := [][]int{}
	copies := [][]int{}
	for x := 0; x < 20; x++ {
		l, _ := h.Words()
		whole := l[:cap(l)]
		lists = append(lists, whole)
		copies = append(copies, slices.Clone(whole))
		switch x % 5 {
		case 0:
			h.Array(x % 5)
		case 1:
			h.Bytes("spare room")
		case 2:
			h.Copy(0)
		case 3:
			h.Open()
			h.Join(1, 1)
			h.Close(1)
			h.Collect()
		default:
			h.Table(x % 4)
		}
	}
	for i := range lists {
		if !slices.Equal(lists[i], copies[i]) {
			t.Errorf("P2: list %d became %v, was %v", i, lists[i], copies[i])
		}
	}
}

// P2: a heap's answers hang on its own calls alone.
func TestP2HeapsAreApart(t *testing.T) {
	alone := newHeap(t, 40)
	alone.Array(1)
	alone.Bytes("one")
	alone.Table(1)
	want, wantList := look(alone)

	h := newHeap(t, 40)
	other := newHeap(t, 9)
	h.Array(1)
	checkNumber(t, "P2: first handle of the other heap", 0, api.OK)(other.Array(4))
	h.Bytes("one")
	checkNumber(t, "P2: the other heap runs out", 0, api.ErrMemory)(other.Array(4))
	h.Table(1)
	words, list := look(h)
	if !slices.Equal(words, want) || !slices.Equal(list, wantList) {
		t.Errorf("P2: Words = %v beside another heap, %v alone", words, want)
	}
}

// P2: the same for the calls that change words.
func TestP2WordsAndChanges(t *testing.T) {
	h := newHeap(t, 100)
	h.Array(2)
	h.Table(2)
	ahead, _ := h.Words()
	want := slices.Clone(ahead)
	h.Set(0, 1, num(5))
	h.Put(1, num(6), obj(0))
	h.Put(1, num(7), num(8))
	h.Cut(1, num(6))
	if !slices.Equal(ahead, want) {
		t.Errorf("P2: a list became %v, was %v", ahead, want)
	}
	behind, _ := h.Words()
	for i := range behind {
		behind[i] = 1
	}
	checkWords(t, h, 65538, 0, 0, 1, 5, 196610, 1, 1, 7, 1, 8, 0, 0, 0, 0)
	checkValue(t, "P2: Get", num(5), api.OK)(h.Get(0, 1))
	checkValue(t, "P2: Find", num(8), api.OK)(h.Find(1, num(7)))
	checkValue(t, "P2: Key", num(7), api.OK)(h.Key(1, 0))
}
