package memory

import "grip/api"

// Value is a value as it stands in two words: N is the number, or the place of
// the object.
type Value struct {
	Kind, N int
}

const (
	wordsOfValue = 2
	wordsOfEntry = 2 * wordsOfValue
)

// setWord writes a place. One that is not in use is left alone, so that no
// index can fail.
func (m *Memory) setWord(place int, n int) {
	if place < 0 || place >= len(m.words) {
		return
	}
	m.words[place] = n
}

// value reads the two words from at on.
func (m *Memory) value(at int) Value {
	kind := m.word(at)
	n := m.word(at + 1)
	return Value{Kind: kind, N: n}
}

// setValue writes the two words from at on.
func (m *Memory) setValue(at int, v Value) {
	m.setWord(at, v.Kind)
	m.setWord(at+1, v.N)
}

// values tells where the values (keys are some too) of the object at a place
// begin, and how many there are. Entries that are not there are noughts, so
// they can be told as so many times nothing.
func (m *Memory) values(place int) (int, int) {
	kind := m.Kind(place)
	size := m.Size(place)
	switch kind {
	case api.Array:
		return place + 1, size
	case api.Table:
		return entry(place, 0), size * wordsOfEntry / wordsOfValue
	}
	return place, 0
}

// element tells where the i-th value of the array at a place lies; false if
// there is none.
func (m *Memory) element(place int, i int) (int, bool) {
	if i < 0 || i >= m.Size(place) {
		return 0, false
	}
	return place + 1 + wordsOfValue*i, true
}

// Get reads the i-th value of the array at a place; false if there is none.
func (m *Memory) Get(place int, i int) (Value, bool) {
	at, there := m.element(place, i)
	if !there {
		return Value{}, false
	}
	return m.value(at), true
}

// Set writes the i-th value of the array at a place; false if there is none.
func (m *Memory) Set(place int, i int, v Value) bool {
	at, there := m.element(place, i)
	if !there {
		return false
	}
	m.setValue(at, v)
	return true
}

// entry tells where the key of the i-th entry of the table at a place lies.
func entry(place int, i int) int {
	return place + 2 + wordsOfEntry*i
}

// setCount writes how many entries the table at a place has.
func (m *Memory) setCount(place int, count int) {
	m.setWord(place+1, count)
}

// setEntry writes the i-th entry of the table at a place.
func (m *Memory) setEntry(place int, i int, k Value, v Value) {
	at := entry(place, i)
	m.setValue(at, k)
	m.setValue(at+wordsOfValue, v)
}

// search tells the number of the entry that has the key k; false if there is
// none. A place tells the object, so keys are the same if their words are.
func (m *Memory) search(place int, k Value) (int, bool) {
	count := m.Len(place)
	for i := 0; i < count; i++ {
		at := entry(place, i)
		other := m.value(at)
		if other.Kind == k.Kind && other.N == k.N {
			return i, true
		}
	}
	return 0, false
}

// Key reads the key of the i-th entry of the table at a place; false if there
// is none.
func (m *Memory) Key(place int, i int) (Value, bool) {
	if i < 0 || i >= m.Len(place) {
		return Value{}, false
	}
	at := entry(place, i)
	return m.value(at), true
}

// Find reads the value of the key k in the table at a place; false if the key
// is not there.
func (m *Memory) Find(place int, k Value) (Value, bool) {
	i, there := m.search(place, k)
	if !there {
		return Value{}, false
	}
	at := entry(place, i) + wordsOfValue
	return m.value(at), true
}

// Put gives the key k the value v in the table at a place; false, and nothing
// is changed, if the key is not there and has no room.
func (m *Memory) Put(place int, k Value, v Value) bool {
	i, there := m.search(place, k)
	if there {
		m.setEntry(place, i, k, v)
		return true
	}
	count := m.Len(place)
	if count >= m.Size(place) {
		return false
	}
	m.setEntry(place, count, k, v)
	m.setCount(place, count+1)
	return true
}

// Cut takes the key k out of the table at a place; false if it is not there.
func (m *Memory) Cut(place int, k Value) bool {
	i, there := m.search(place, k)
	if !there {
		return false
	}
	last := m.Len(place) - 1
	for ; i < last; i++ {
		m.moveUp(place, i+1)
	}
	m.setEntry(place, last, Value{}, Value{})
	m.setCount(place, last)
	return true
}

// moveUp writes the i-th entry of the table at a place over the one ahead.
func (m *Memory) moveUp(place int, i int) {
	at := entry(place, i)
	k := m.value(at)
	v := m.value(at + wordsOfValue)
	m.setEntry(place, i-1, k, v)
}
