package slots

import (
	"testing"

	"grip/api"
)

func TestAdd(t *testing.T) {
	s := Slots{}
	for i := 0; i < api.MaxHandles; i++ {
		if s.Full() {
			t.Fatalf("full with %d handles", i)
		}
		if x, made := s.Add(100 + i); x != i || !made {
			t.Errorf("handle %d = %d, %v", i, x, made)
		}
	}
	if !s.Full() {
		t.Error("not full")
	}
	if x, made := s.Add(7); x != 0 || made {
		t.Errorf("one more = %d, %v", x, made)
	}
	for i := 0; i < api.MaxHandles; i++ {
		if place, live := s.Place(i); place != 100+i || !live {
			t.Errorf("Place(%d) = %d, %v", i, place, live)
		}
	}
}

// A slot that is given again: its handle has another number, and the lowest
// free slot goes first.
func TestGivenAgain(t *testing.T) {
	s := Slots{}
	for i := 0; i < 5; i++ {
		s.Add(i)
	}
	for round := 1; round < 4; round++ {
		s.list[3].live = false
		s.list[1].live = false
		for _, i := range []int{1, 3} {
			x := (round-1)*api.MaxHandles + i
			if place, live := s.Place(x); place != 0 || live {
				t.Errorf("round %d: Place(%d) = %d, %v with its slot free", round, x, place, live)
			}
		}
		for _, i := range []int{1, 3} {
			want := round*api.MaxHandles + i
			if x, made := s.Add(50 + i); x != want || !made {
				t.Errorf("round %d: slot %d = %d, %v, want %d", round, i, x, made, want)
			}
			if place, live := s.Place(want); place != 50+i || !live {
				t.Errorf("round %d: Place(%d) = %d, %v", round, want, place, live)
			}
			for _, x := range []int{want - api.MaxHandles, want + api.MaxHandles} {
				if place, live := s.Place(x); place != 0 || live {
					t.Errorf("round %d: Place(%d) = %d, %v", round, x, place, live)
				}
			}
		}
	}
}

func TestNotLive(t *testing.T) {
	s := Slots{}
	numbers := []int{-1, -31, -32, -33, -1 << 63, 1, 31, 32, 33, 1 << 62, 1<<63 - 1, 1<<63 - 32}
	for _, x := range append(numbers, 0) {
		if place, live := s.Place(x); place != 0 || live {
			t.Errorf("without handles: Place(%d) = %d, %v", x, place, live)
		}
	}
	s.Add(9)
	for _, x := range numbers {
		if place, live := s.Place(x); place != 0 || live {
			t.Errorf("Place(%d) = %d, %v", x, place, live)
		}
	}
}
