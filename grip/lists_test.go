package grip_test

import (
	"slices"
	"testing"

	"grip/api"
)

// P2: what is handed in is not written into and not kept.
func TestP2FlagsHandedIn(t *testing.T) {
	room := []bool{true, false, true, false, false}
	h := newHeap(t, 50, room[:3]...)
	other := newHeap(t, 50, true, false, true)
	if !slices.Equal(room, []bool{true, false, true, false, false}) {
		t.Errorf("P2: New wrote into the flags: %v", room)
	}
	for i := range room {
		room[i] = !room[i]
	}
	changed := slices.Clone(room)
	for i := 0; i < 5; i++ {
		h.Array(i)
		other.Array(i)
	}
	words, list := look(h)
	wordsThen, listThen := look(other)
	if !slices.Equal(words, wordsThen) || !slices.Equal(list, listThen) {
		t.Error("P2: the flags that were handed in are kept")
	}
	if !slices.Equal(room, changed) {
		t.Errorf("P2: a later call wrote into the flags: %v", room)
	}
}

// P2: the list that Words answers is the caller's, with its spare room.
func TestP2WordsAreTheCallers(t *testing.T) {
	h := newHeap(t, 100)
	h.Array(2)
	h.Bytes("hello")
	want, wantList := look(h)
	for round := 0; round < 3; round++ {
		l, _ := h.Words()
		l = l[:cap(l)]
		for i := range l {
			l[i] = -77
		}
	}
	words, list := look(h)
	if !slices.Equal(words, want) || !slices.Equal(list, wantList) {
		t.Errorf("P2: Words = %v after writing into what it answered, want %v", words, want)
	}
}

// P2: what stands in the spare room does not come out in a later object.
func TestP2SpareRoomIsNotReused(t *testing.T) {
	h := newHeap(t, 100)
	want := []int{}
	for x := 0; x < 12; x++ {
		l, _ := h.Words()
		for i := 0; i < 40; i++ {
			l = append(l, -77)
		}
		h.Array(1)
		want = append(want, api.Head+1, 0, 0)
		checkWords(t, h, want...)
	}
}

// P2: no later call writes into a list that Words answered.
func TestP2LaterCallsLeaveWordsAlone(t *testing.T) {
	h := newHeap(t, 512)
	lists := [][]int{}
	copies := [][]int{}
	for x := 0; x < 20; x++ {
		l, _ := h.Words()
		whole := l[:cap(l)]
		lists = append(lists, whole)
		copies = append(copies, slices.Clone(whole))
		switch x % 3 {
		case 0:
			h.Array(x % 5)
		case 1:
			h.Bytes("spare room")
		default:
			h.Table(x % 4)
		}
	}
	for i := range lists {
		if !slices.Equal(lists[i], copies[i]) {
			t.Errorf("P2: list %d became %v, was %v", i, lists[i], copies[i])
		}
	}
}

// P2: a heap's answers hang on its own calls alone.
func TestP2HeapsAreApart(t *testing.T) {
	alone := newHeap(t, 40)
	alone.Array(1)
	alone.Bytes("one")
	alone.Table(1)
	want, wantList := look(alone)

	h := newHeap(t, 40)
	other := newHeap(t, 9)
	h.Array(1)
	checkNumber(t, "P2: first handle of the other heap", 0, api.OK)(other.Array(4))
	h.Bytes("one")
	checkNumber(t, "P2: the other heap runs out", 0, api.ErrMemory)(other.Array(4))
	h.Table(1)
	words, list := look(h)
	if !slices.Equal(words, want) || !slices.Equal(list, wantList) {
		t.Errorf("P2: Words = %v beside another heap, %v alone", words, want)
	}
}

// P2: the same for the calls that change words.
func TestP2WordsAndChanges(t *testing.T) {
	h := newHeap(t, 100)
	h.Array(2)
	h.Table(2)
	ahead, _ := h.Words()
	want := slices.Clone(ahead)
	h.Set(0, 1, num(5))
	h.Put(1, num(6), obj(0))
	h.Put(1, num(7), num(8))
	h.Cut(1, num(6))
	if !slices.Equal(ahead, want) {
		t.Errorf("P2: a list became %v, was %v", ahead, want)
	}
	behind, _ := h.Words()
	for i := range behind {
		behind[i] = 1
	}
	checkWords(t, h, 65538, 0, 0, 1, 5, 196610, 1, 1, 7, 1, 8, 0, 0, 0, 0)
	checkValue(t, "P2: Get", num(5), api.OK)(h.Get(0, 1))
	checkValue(t, "P2: Find", num(8), api.OK)(h.Find(1, num(7)))
	checkValue(t, "P2: Key", num(7), api.OK)(h.Key(1, 0))
}
