package slots

import (
	"slices"
	"testing"

	"grip/api"
)

func TestAdd(t *testing.T) {
	s := Slots{}
	for i := 0; i < api.MaxHandles; i++ {
		if s.Full() {
			t.Fatalf("full with %d handles", i)
		}
		if x, made := s.Add(100+i, 0); x != i || !made {
			t.Errorf("handle %d = %d, %v", i, x, made)
		}
	}
	if !s.Full() {
		t.Error("not full")
	}
	if x, made := s.Add(7, 0); x != 0 || made {
		t.Errorf("one more = %d, %v", x, made)
	}
	for i := 0; i < api.MaxHandles; i++ {
		if place, live := s.Place(i); place != 100+i || !live {
			t.Errorf("Place(%d) = %d, %v", i, place, live)
		}
	}
}

// A slot that is given again: its handle has another number, and the lowest
// free slot goes first.
func TestGivenAgain(t *testing.T) {
	s := Slots{}
	for i := 0; i < 5; i++ {
		s.Add(i, Kept)
	}
	for round := 1; round < 4; round++ {
		for _, i := range []int{3, 1} {
			x := (round-1)*api.MaxHandles + i
			if !s.Release(x) {
				t.Errorf("round %d: Release(%d)", round, x)
			}
			if place, live := s.Place(x); place != 0 || live {
				t.Errorf("round %d: Place(%d) = %d, %v with its slot free", round, x, place, live)
			}
		}
		for _, i := range []int{1, 3} {
			want := round*api.MaxHandles + i
			if x, made := s.Add(50+i, Kept); x != want || !made {
				t.Errorf("round %d: slot %d = %d, %v, want %d", round, i, x, made, want)
			}
			if place, live := s.Place(want); place != 50+i || !live {
				t.Errorf("round %d: Place(%d) = %d, %v", round, want, place, live)
			}
			for _, x := range []int{want - api.MaxHandles, want + api.MaxHandles} {
				if place, live := s.Place(x); place != 0 || live {
					t.Errorf("round %d: Place(%d) = %d, %v", round, x, place, live)
				}
			}
		}
	}
}

func TestNotLive(t *testing.T) {
	s := Slots{}
	numbers := []int{-1, -31, -32, -33, -1 << 63, 1, 31, 32, 33, 1 << 62, 1<<63 - 1, 1<<63 - 32}
	for _, x := range append(numbers, 0) {
		if place, live := s.Place(x); place != 0 || live {
			t.Errorf("without handles: Place(%d) = %d, %v", x, place, live)
		}
	}
	s.Add(9, 0)
	for _, x := range numbers {
		if place, live := s.Place(x); place != 0 || live {
			t.Errorf("Place(%d) = %d, %v", x, place, live)
		}
	}
}

func TestScopesByNumber(t *testing.T) {
	s := Slots{}
	for n := 1; n <= api.MaxScopes; n++ {
		if m := s.Innermost(); m != n-1 {
			t.Errorf("Innermost = %d, want %d", m, n-1)
		}
		if m, opened := s.Open(); m != n || !opened {
			t.Errorf("Open = %d, %v, want %d", m, opened, n)
		}
	}
	if m, opened := s.Open(); m != 0 || opened {
		t.Errorf("one more = %d, %v", m, opened)
	}
	for n := api.MaxScopes; n > 0; n-- {
		for _, m := range []int{0, n - 1, n + 1, -n, -1, 1 << 62, -1 << 63} {
			if s.Close(m) {
				t.Errorf("Close(%d) with %d innermost", m, n)
			}
		}
		if !s.Close(n) {
			t.Errorf("Close(%d)", n)
		}
	}
	for _, m := range []int{0, 1, Kept} {
		if s.Close(m) {
			t.Errorf("Close(%d) with 0 innermost", m)
		}
	}
}

// Close ends the handles of its scope, and Release those that are kept; the
// others stay.
func TestHandlesEnd(t *testing.T) {
	s := Slots{}
	s.Open()
	s.Open()
	for i, scope := range []int{2, 0, Kept, 1, 2} {
		s.Add(10+i, scope)
	}
	check := func(want ...bool) {
		t.Helper()
		for x, w := range want {
			if _, live := s.Place(x); live != w {
				t.Errorf("handle %d: live is %v", x, live)
			}
		}
	}
	s.Close(2)
	check(false, true, true, true, false)
	for _, x := range []int{0, 1, 3, 4, 5, 32, 34, -1, -30, 1 << 62, -1 << 63} {
		if s.Release(x) {
			t.Errorf("Release(%d)", x)
		}
	}
	s.Close(1)
	check(false, true, true, false, false)
	if !s.Release(2) || s.Release(2) {
		t.Error("Release of a kept handle, and once more")
	}
	check(false, true, false, false, false)
}

// Places tells the live handles' places by rising slots, each handle's own;
// Move puts others there, and neither ends nor makes a handle.
func TestPlacesAndMove(t *testing.T) {
	s := Slots{}
	if l := s.Places(); len(l) != 0 {
		t.Errorf("Places without handles = %v", l)
	}
	s.Move([]int{})
	for _, place := range []int{30, 10, 20, 10, 0} {
		s.Add(place, Kept)
	}
	s.Release(2)
	given := s.Places()
	if !slices.Equal(given, []int{30, 10, 10, 0}) {
		t.Errorf("Places = %v", given)
	}
	s.Move([]int{0, 5, 6, 7})
	if !slices.Equal(given, []int{30, 10, 10, 0}) {
		t.Errorf("Move wrote into a list: %v", given)
	}
	for x, want := range []int{0, 5, 0, 6, 7} {
		if place, live := s.Place(x); place != want || live != (x != 2) {
			t.Errorf("Place(%d) = %d, %v, want %d", x, place, live, want)
		}
	}
	if x, made := s.Add(9, 0); x != 34 || !made {
		t.Errorf("the next handle = %d, %v", x, made)
	}
	if l := s.Places(); !slices.Equal(l, []int{0, 5, 9, 6, 7}) {
		t.Errorf("Places = %v", l)
	}
}

// A list that is too short leaves the other handles as they are.
func TestMoveOfTooFew(t *testing.T) {
	s := Slots{}
	s.Add(3, 0)
	s.Add(4, 0)
	s.Move([]int{1})
	if l := s.Places(); !slices.Equal(l, []int{1, 4}) {
		t.Errorf("Places = %v", l)
	}
}
