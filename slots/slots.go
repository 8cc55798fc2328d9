// Package slots: the handles, and where their objects lie.
package slots

import "grip/api"

// slot is the room of one live handle.
type slot struct {
	live  bool
	given int // how many handles it was given, the live one among them
	place int // of the live handle's object
}

// Slots is all slots. At first no handle is live.
type Slots struct {
	list [api.MaxHandles]slot
}

// Place tells where the object of the handle x lies; false if x is not live.
func (s *Slots) Place(x int) (int, bool) {
	if x < 0 {
		return 0, false
	}
	i := x % api.MaxHandles
	before := x / api.MaxHandles
	if !s.list[i].live || s.list[i].given != before+1 {
		return 0, false
	}
	return s.list[i].place, true
}

// free tells the lowest slot that no live handle has, or MaxHandles.
func (s *Slots) free() int {
	for i := 0; i < api.MaxHandles; i++ {
		if !s.list[i].live {
			return i
		}
	}
	return api.MaxHandles
}

// Full tells whether all slots are taken.
func (s *Slots) Full() bool {
	return s.free() == api.MaxHandles
}

// Add makes a handle of the object at a place; false if all slots are taken.
func (s *Slots) Add(place int) (int, bool) {
	i := s.free()
	if i < 0 || i >= api.MaxHandles {
		return 0, false
	}
	before := s.list[i].given
	s.list[i] = slot{live: true, given: before + 1, place: place}
	return api.MaxHandles*before + i, true
}
