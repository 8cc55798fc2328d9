// Package slots: the handles, where their objects lie, and the scopes that
// they belong to.
package slots

import "grip/api"

// Kept stands in the place of a scope's number for a handle that is kept. No
// scope has this number, so no Close ends such a handle.
const Kept = -1

// slot is the room of one live handle.
type slot struct {
	live  bool
	given int // how many handles it was given, the live one among them
	place int // of the live handle's object
	scope int // that the live handle belongs to, or Kept
}

// Slots is all slots and scopes. At first no handle is live, and no scope is
// open but 0.
type Slots struct {
	list [api.MaxHandles]slot
	open int // how many scopes but 0 are open
}

// find tells the slot of the handle x; false if x is not live.
func (s *Slots) find(x int) (int, bool) {
	if x < 0 {
		return 0, false
	}
	i := x % api.MaxHandles
	before := x / api.MaxHandles
	if !s.list[i].live || s.list[i].given != before+1 {
		return 0, false
	}
	return i, true
}

// Place tells where the object of the handle x lies; false if x is not live.
func (s *Slots) Place(x int) (int, bool) {
	i, live := s.find(x)
	if !live {
		return 0, false
	}
	return s.list[i].place, true
}

// Places tells the places of the live handles' objects, by rising slots.
func (s *Slots) Places() []int {
	places := []int{}
	for i := 0; i < api.MaxHandles; i++ {
		if s.list[i].live {
			places = append(places, s.list[i].place)
		}
	}
	return places
}

// Move gives the live handles' objects new places, in the order of Places.
func (s *Slots) Move(places []int) {
	next := 0
	for i := 0; i < api.MaxHandles; i++ {
		if s.list[i].live && next < len(places) {
			s.list[i].place = places[next]
			next++
		}
	}
}

// free tells the lowest slot that no live handle has, or MaxHandles.
func (s *Slots) free() int {
	for i := 0; i < api.MaxHandles; i++ {
		if !s.list[i].live {
			return i
		}
	}
	return api.MaxHandles
}

// Full tells whether all slots are taken.
func (s *Slots) Full() bool {
	return s.free() == api.MaxHandles
}

// Add makes a handle of the object at a place, which belongs to a scope or is
// Kept; false if all slots are taken.
func (s *Slots) Add(place int, scope int) (int, bool) {
	i := s.free()
	if i < 0 || i >= api.MaxHandles {
		return 0, false
	}
	before := s.list[i].given
	s.list[i] = slot{live: true, given: before + 1, place: place, scope: scope}
	return api.MaxHandles*before + i, true
}

// Release ends the handle x; false, and nothing is changed, if it is not a
// live one that is kept.
func (s *Slots) Release(x int) bool {
	i, live := s.find(x)
	if !live || s.list[i].scope != Kept {
		return false
	}
	s.list[i].live = false
	return true
}

// Innermost tells the number of the innermost open scope. Scopes are numbered
// by how many but 0 are open, so that count is the number.
func (s *Slots) Innermost() int {
	return s.open
}

// Open opens a scope and tells its number; false if no more may be open.
func (s *Slots) Open() (int, bool) {
	if s.open >= api.MaxScopes {
		return 0, false
	}
	s.open++
	return s.open, true
}

// Close closes the scope n and ends its handles; false, and nothing is
// changed, if it is not the innermost one or is 0.
func (s *Slots) Close(n int) bool {
	if n == 0 || n != s.open {
		return false
	}
	for i := 0; i < api.MaxHandles; i++ {
		if s.list[i].scope == n {
			s.list[i].live = false
		}
	}
	s.open--
	return true
}
