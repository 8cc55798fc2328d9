package memory

import (
	"slices"
	"testing"

	"grip/api"
)

// collect is Collect, which must tell these new places of the roots and leave
// their list alone.
func collect(t *testing.T, m *Memory, roots []int, want ...int) {
	t.Helper()
	given := slices.Clone(roots)
	if l := m.Collect(roots); !slices.Equal(l, want) {
		t.Errorf("Collect(%v) = %v, want %v", given, l, want)
	}
	if !slices.Equal(roots, given) {
		t.Errorf("Collect made %v of %v", roots, given)
	}
}

func TestCollectNothing(t *testing.T) {
	m := New(10)
	collect(t, &m, []int{})
	checkMemory(t, &m)
	m.Add(api.Array, 2)
	m.Add(api.Bytes, 9)
	collect(t, &m, []int{})
	checkMemory(t, &m)
	if place, fits := m.Add(api.Array, 4); place != 0 || !fits {
		t.Errorf("Add = %d, %v: the words are free again", place, fits)
	}
}

// The roots' order tells, and one that comes twice is moved once.
func TestCollectRoots(t *testing.T) {
	m := New(20)
	m.Add(api.Array, 0)
	text, _ := m.Add(api.Bytes, 1)
	m.Add(api.Array, 1)
	table, _ := m.Add(api.Table, 0)
	m.Fill(text, "a")
	collect(t, &m, []int{table, text, table, 0, text}, 0, 2, 0, 4, 2)
	checkMemory(t, &m, 196608, 0, 131073, 'a', 65536)
}

// What is held comes behind the roots, keys and values in the order of words.
func TestCollectHeld(t *testing.T) {
	m := New(60)
	for i := 0; i < 5; i++ { // at the places 0 to 4
		m.Add(api.Array, 0)
	}
	array, _ := m.Add(api.Array, 3) // at place 5
	table, _ := m.Add(api.Table, 3) // at place 12
	other, _ := m.Add(api.Bytes, 1) // at place 26
	m.Put(table, object(3), object(1))
	m.Put(table, number(0), object(array))
	m.Set(array, 0, object(2))
	m.Set(array, 1, number(3))
	m.Set(array, 2, object(3))
	collect(t, &m, []int{table, other}, 0, 14)
	want := []int{196611, 2, 2, 16, 2, 17, 1, 0, 2, 18, 0, 0, 0, 0, 131073, 0}
	want = append(want, 65536, 65536, 65539, 2, 25, 1, 3, 2, 16, 65536)
	checkMemory(t, &m, want...)
}

func TestCollectPlacesNotInUse(t *testing.T) {
	m := New(10)
	m.Add(api.Bytes, 1)
	collect(t, &m, []int{-1, -1 << 63, 2, 1 << 62, 1<<63 - 1, 0}, 0, 0, 0, 0, 0, 0)
	checkMemory(t, &m, 2*api.Head+1, 0)
}

// The limit stays.
func TestCollectKeepsTheLimit(t *testing.T) {
	m := New(5)
	m.Add(api.Array, 1)
	collect(t, &m, []int{0}, 0)
	if _, fits := m.Add(api.Array, 1); fits {
		t.Error("3 words of 5 are in use, and 3 more had room")
	}
	if place, fits := m.Add(api.Table, 0); place != 3 || !fits {
		t.Errorf("Add = %d, %v", place, fits)
	}
}

func TestCopy(t *testing.T) {
	m := New(100)
	array, _ := m.Add(api.Array, 2)
	m.Set(array, 0, number(7))
	m.Set(array, 1, object(array))
	text, _ := m.Add(api.Bytes, 9)
	m.Fill(text, "123456789")
	table, _ := m.Add(api.Table, 2)
	m.Put(table, object(text), number(8))
	words := m.Words()
	for _, place := range []int{array, text, table} {
		to, _ := m.Add(m.Kind(place), m.Size(place))
		m.Copy(place, to)
	}
	m.Copy(-1, 0)
	m.Copy(1<<62, 0)
	m.Copy(array, 1<<62)
	checkMemory(t, &m, append(words, words...)...)
}
