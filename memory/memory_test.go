package memory

import (
	"slices"
	"strings"
	"testing"

	"grip/api"
)

func TestSpan(t *testing.T) {
	for _, c := range []struct{ kind, size, want int }{
		{api.Array, 0, 1}, {api.Array, 1, 3}, {api.Array, 16, 33},
		{api.Bytes, 0, 1}, {api.Bytes, 1, 2}, {api.Bytes, 7, 2}, {api.Bytes, 8, 2}, {api.Bytes, 9, 3}, {api.Bytes, 64, 9},
		{api.Table, 0, 2}, {api.Table, 1, 6}, {api.Table, 8, 34},
	} {
		m := New(c.want)
		if place, fits := m.Add(c.kind, c.size); place != 0 || !fits {
			t.Errorf("Add(%d, %d) = %d, %v", c.kind, c.size, place, fits)
		}
		if n := len(m.Words()); n != c.want {
			t.Errorf("kind %d of size %d takes %d words, want %d", c.kind, c.size, n, c.want)
		}
		less := New(c.want - 1)
		if place, fits := less.Add(c.kind, c.size); place != 0 || fits {
			t.Errorf("Add(%d, %d) with a word too few = %d, %v", c.kind, c.size, place, fits)
		}
		if n := len(less.Words()); n != 0 {
			t.Errorf("an Add that failed left %d words", n)
		}
	}
}

func TestAddBehind(t *testing.T) {
	m := New(10)
	for i, c := range []struct{ kind, size, place int }{{api.Array, 1, 0}, {api.Table, 0, 3}, {api.Bytes, 3, 5}, {api.Array, 0, 7}} {
		if place, fits := m.Add(c.kind, c.size); place != c.place || !fits {
			t.Errorf("object %d lies at %d (%v), want %d", i, place, fits, c.place)
		}
	}
	if _, fits := m.Add(api.Array, 1); fits {
		t.Error("8 words of 10 are in use, and 3 more had room")
	}
	if place, fits := m.Add(api.Table, 0); place != 8 || !fits {
		t.Errorf("the last two words: %d, %v", place, fits)
	}
}

func TestFillAndText(t *testing.T) {
	for _, s := range []string{"", "a", "\x00", "\xff", "12345678", "123456789", strings.Repeat("\xff", 64), strings.Repeat("\x80\x00", 32)} {
		m := New(100)
		m.Add(api.Array, 2)
		place, _ := m.Add(api.Bytes, len(s))
		m.Fill(place, s)
		if u := m.Text(place); u != s {
			t.Errorf("Text = %q, want %q", u, s)
		}
	}
}

func TestLenOfTable(t *testing.T) {
	m := New(100)
	place, _ := m.Add(api.Table, 5)
	m.words[place+1] = 3
	if n := m.Len(place); n != 3 {
		t.Errorf("Len = %d: it is the entries that count, not the room", n)
	}
}

func TestPlacesNotInUse(t *testing.T) {
	m := New(10)
	m.Add(api.Bytes, 1)
	for _, place := range []int{-1, -1 << 63, 2, 1 << 62, 1<<63 - 1} {
		if m.Kind(place) != 0 || m.Len(place) != 0 || m.Text(place) != "" {
			t.Errorf("something is read at %d", place)
		}
	}
	for _, place := range []int{-3, -1 << 63, 1, 1 << 62} {
		m.Fill(place, "x")
	}
	if l := m.Words(); !slices.Equal(l, []int{2*api.Head + 1, 0}) {
		t.Errorf("Words = %v", l)
	}
}
