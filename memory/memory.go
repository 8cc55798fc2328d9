// Package memory: the words in use, and how objects lie in them.
package memory

import "grip/api"

// Memory is the words in use, and how many there may be.
type Memory struct {
	limit int
	words []int
}

const bytesInWord = 8

// New makes a memory with no word in use.
func New(limit int) Memory {
	return Memory{limit: limit}
}

// span tells how many words an object takes.
func span(kind int, size int) int {
	switch kind {
	case api.Array:
		return 1 + 2*size
	case api.Bytes:
		return 1 + (size+bytesInWord-1)/bytesInWord
	case api.Table:
		return 2 + 4*size
	}
	return 0
}

// Add lays an object whose contents are noughts behind the words in use, and
// tells its place; or false, and nothing is laid, if it has no room.
func (m *Memory) Add(kind int, size int) (int, bool) {
	place := len(m.words)
	count := span(kind, size)
	if count > m.limit-place {
		return 0, false
	}
	m.words = append(m.words, kind*api.Head+size)
	for i := 1; i < count; i++ {
		m.words = append(m.words, 0)
	}
	return place, true
}

// word reads a place. Places that are not in use read as nought, so that no
// index can fail.
func (m *Memory) word(place int) int {
	if place < 0 || place >= len(m.words) {
		return 0
	}
	return m.words[place]
}

// Kind tells the kind of the object at a place.
func (m *Memory) Kind(place int) int {
	return m.word(place) / api.Head
}

// Size tells an array's length, the number of bytes, or a table's room.
func (m *Memory) Size(place int) int {
	return m.word(place) % api.Head
}

// spanAt tells how many words the object at a place takes.
func (m *Memory) spanAt(place int) int {
	kind := m.Kind(place)
	size := m.Size(place)
	return span(kind, size)
}

// Len tells how much the object at a place holds. A table's size is its room,
// so its entries are counted in a word of their own.
func (m *Memory) Len(place int) int {
	kind := m.Kind(place)
	if kind == api.Table {
		return m.word(place + 1)
	}
	return m.Size(place)
}

// wordOfByte tells where the i-th byte of the bytes at a place lies.
func wordOfByte(place int, i int) int {
	return place + 1 + i/bytesInWord
}

// shiftOfByte tells by how many bits the i-th byte is moved up in its word.
// It is unsigned because such a shift can't fail.
func shiftOfByte(i int) uint {
	return uint(i%bytesInWord) * 8
}

// Fill writes the bytes of s into the bytes at a place, which are noughts yet.
func (m *Memory) Fill(place int, s string) {
	for i := 0; i < len(s); i++ {
		at := wordOfByte(place, i)
		if at < 0 || at >= len(m.words) {
			return
		}
		m.words[at] += int(s[i]) << shiftOfByte(i)
	}
}

// Text tells the bytes at a place.
func (m *Memory) Text(place int) string {
	size := m.Size(place)
	text := []byte{}
	for i := 0; i < size; i++ {
		at := wordOfByte(place, i)
		word := m.word(at)
		shifted := word >> shiftOfByte(i)
		text = append(text, byte(shifted))
	}
	return string(text)
}

// Copy writes the contents of the object at one place into the object at
// another, which has the same kind and size.
func (m *Memory) Copy(from int, to int) {
	count := m.spanAt(from)
	for i := 1; i < count; i++ {
		word := m.word(from + i)
		m.setWord(to+i, word)
	}
}

// Words tells the words in use, as a list that nobody else holds.
func (m *Memory) Words() []int {
	return append([]int{}, m.words...)
}
