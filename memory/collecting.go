package memory

import "grip/api"

// collection is a collecting under way. What lies at the old places is left as
// it is until the end, so an object is known by its old place.
type collection struct {
	old   *Memory
	fresh Memory // the objects that have a new place
	moved []int  // by old place: the new one plus 1, or 0 if there is none
	order []int  // the new places
}

// Collect moves the objects at the roots, and all that they hold, together
// from place 0 on, and tells the new places of the roots. All others are gone.
func (m *Memory) Collect(roots []int) []int {
	c := collection{old: m, moved: make([]int, len(m.words))}
	places := []int{}
	for i := 0; i < len(roots); i++ {
		place := c.move(roots[i])
		places = append(places, place)
	}
	// What is moved here comes behind in the order, and so is looked at later.
	for i := 0; i < len(c.order); i++ {
		place := c.order[i]
		c.moveInner(place)
	}
	m.words = c.fresh.words
	return places
}

// move gives the object at an old place a new one, if it has none yet, and
// tells that.
func (c *collection) move(from int) int {
	if from < 0 || from >= len(c.moved) {
		return 0
	}
	if c.moved[from] > 0 {
		return c.moved[from] - 1
	}
	to := len(c.fresh.words)
	count := c.old.spanAt(from)
	for i := 0; i < count; i++ {
		word := c.old.word(from + i)
		c.fresh.words = append(c.fresh.words, word)
	}
	c.moved[from] = to + 1
	c.order = append(c.order, to)
	return to
}

// moveInner moves the objects that the object at a new place holds: it still
// tells their old places.
func (c *collection) moveInner(place int) {
	first, count := c.fresh.values(place)
	for i := 0; i < count; i++ {
		at := first + wordsOfValue*i
		v := c.fresh.value(at)
		if v.Kind == api.Obj {
			to := c.move(v.N)
			c.fresh.setValue(at, Value{Kind: api.Obj, N: to})
		}
	}
}
