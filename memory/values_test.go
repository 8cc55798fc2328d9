package memory

import (
	"slices"
	"testing"

	"grip/api"
)

func number(n int) Value     { return Value{Kind: api.Int, N: n} }
func object(place int) Value { return Value{Kind: api.Obj, N: place} }

func checkMemory(t *testing.T, m *Memory, want ...int) {
	t.Helper()
	if l := m.Words(); !slices.Equal(l, want) {
		t.Errorf("Words = %v, want %v", l, want)
	}
}

func TestElements(t *testing.T) {
	m := New(20)
	m.Add(api.Table, 0)
	place, _ := m.Add(api.Array, 2)
	m.Add(api.Array, 1)
	if !m.Set(place, 0, number(-5)) || !m.Set(place, 1, object(7)) {
		t.Error("Set of an element that is there")
	}
	checkMemory(t, &m, 196608, 0, 65538, 1, -5, 2, 7, 65537, 0, 0)
	for i, want := range []Value{number(-5), object(7)} {
		if v, there := m.Get(place, i); v != want || !there {
			t.Errorf("Get(%d) = %v, %v", i, v, there)
		}
	}
	for _, i := range []int{-1, 2, 3, 1 << 62, -1 << 63, 1<<63 - 1} {
		if v, there := m.Get(place, i); v != (Value{}) || there {
			t.Errorf("Get(%d) = %v, %v", i, v, there)
		}
		if m.Set(place, i, number(1)) {
			t.Errorf("Set(%d)", i)
		}
	}
	checkMemory(t, &m, 196608, 0, 65538, 1, -5, 2, 7, 65537, 0, 0)
}

func TestEntries(t *testing.T) {
	m := New(30)
	m.Add(api.Array, 0)
	place, _ := m.Add(api.Table, 3)
	m.Add(api.Array, 1)
	for i, k := range []Value{number(4), object(0), number(0)} {
		if !m.Put(place, k, number(i)) {
			t.Errorf("Put(%v)", k)
		}
	}
	if m.Put(place, object(4), number(9)) {
		t.Error("Put without room")
	}
	checkMemory(t, &m, 65536, 196611, 3, 1, 4, 1, 0, 2, 0, 1, 1, 1, 0, 1, 2, 65537, 0, 0)
	if v, there := m.Find(place, number(0)); v != number(2) || !there {
		t.Errorf("Find of the number 0 = %v, %v", v, there)
	}
	if v, there := m.Find(place, object(0)); v != number(1) || !there {
		t.Errorf("Find of the object at 0 = %v, %v", v, there)
	}
	if v, there := m.Find(place, object(4)); v != (Value{}) || there {
		t.Errorf("Find of what is not there = %v, %v", v, there)
	}
	if m.Cut(place, object(4)) || !m.Cut(place, object(0)) || m.Cut(place, object(0)) {
		t.Error("Cut")
	}
	checkMemory(t, &m, 65536, 196611, 2, 1, 4, 1, 0, 1, 0, 1, 2, 0, 0, 0, 0, 65537, 0, 0)
	if k, there := m.Key(place, 1); k != number(0) || !there {
		t.Errorf("Key(1) = %v, %v", k, there)
	}
	for _, i := range []int{-1, 2, 3, 1 << 62, -1 << 63, 1<<63 - 1} {
		if k, there := m.Key(place, i); k != (Value{}) || there {
			t.Errorf("Key(%d) = %v, %v", i, k, there)
		}
	}
}

// An entry that is not there is noughts, and so would be the key Nil or the
// number of a kind: such words are not searched.
func TestSearchEndsAtTheCount(t *testing.T) {
	m := New(30)
	place, _ := m.Add(api.Table, 2)
	m.Put(place, number(1), number(2))
	if v, there := m.Find(place, Value{}); v != (Value{}) || there {
		t.Errorf("Find of Nil = %v, %v", v, there)
	}
	if m.Cut(place, Value{}) {
		t.Error("Cut of Nil")
	}
}

func TestValuesAtPlacesNotInUse(t *testing.T) {
	m := New(10)
	m.Add(api.Bytes, 1)
	for _, place := range []int{-1, -1 << 63, 2, 1 << 62, 1<<63 - 1} {
		if v, there := m.Get(place, 0); v != (Value{}) || there {
			t.Errorf("Get at %d = %v, %v", place, v, there)
		}
		if m.Set(place, 0, number(1)) || m.Put(place, number(1), number(1)) || m.Cut(place, number(1)) {
			t.Errorf("something is written at %d", place)
		}
		m.setWord(place, 5)
	}
	checkMemory(t, &m, 2*api.Head+1, 0)
}
