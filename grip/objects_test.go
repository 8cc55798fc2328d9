package grip_test

import (
	"slices"
	"strings"
	"testing"

	"grip/api"
	"grip/grip"
)

func TestP3New(t *testing.T) {
	type row struct {
		limit, flags int
		e            api.Errno
	}
	rows := []row{
		{1, 0, api.OK}, {2, 0, api.OK}, {511, 1, api.OK}, {512, 0, api.OK}, {1, 64, api.OK}, {512, 64, api.OK}, {100, 63, api.OK},
		{0, 0, api.ErrLimit}, {-1, 0, api.ErrLimit}, {513, 0, api.ErrLimit}, {0, 64, api.ErrLimit}, {513, 64, api.ErrLimit},
		{1, 65, api.ErrLimit}, {512, 65, api.ErrLimit}, {0, 65, api.ErrLimit}, {100, 100000, api.ErrLimit},
	}
	for _, n := range greatNumbers {
		rows = append(rows, row{n, 0, api.ErrLimit})
	}
	for _, c := range rows {
		h, e := grip.New(c.limit, make([]bool, c.flags))
		if e != c.e || (h != nil) != (c.e == api.OK) {
			t.Errorf("P3: New(%d, %d flags) = %v, error %d; want error %d", c.limit, c.flags, h, e, c.e)
		}
	}
}

func TestP3Empty(t *testing.T) {
	for _, flags := range [][]bool{nil, {}, {true}, {false, true}} {
		h, e := grip.New(5, flags)
		if h == nil || e != api.OK {
			t.Fatalf("P3: New(5, %v) = %v, error %d", flags, h, e)
		}
		checkWords(t, h)
		for x := 0; x < 3*api.MaxHandles; x++ {
			checkStale(t, h, x)
		}
	}
}

// P3: limit words may be in use, for the least and the greatest limit too.
func TestP3LimitIsKept(t *testing.T) {
	h := newHeap(t, 1)
	checkNumber(t, "P3: Array(0)", 0, api.OK)(h.Array(0))
	checkNumber(t, "P3: one word more", 0, api.ErrMemory)(h.Array(0))
	h = newHeap(t, 512)
	for x := 0; x < 15; x++ {
		checkNumber(t, "P3: Table(8)", x, api.OK)(h.Table(8))
	}
	checkNumber(t, "P3: word 510", 15, api.OK)(h.Array(0))
	checkNumber(t, "P3: word 511", 16, api.OK)(h.Array(0))
	if l, e := h.Words(); len(l) != 512 || e != api.OK {
		t.Errorf("P3: %d words, error %d", len(l), e)
	}
	checkNumber(t, "P3: one word more", 0, api.ErrMemory)(h.Array(0))
}

func TestP4Arrays(t *testing.T) {
	for n := 0; n <= api.MaxArray; n++ {
		h := newHeap(t, 512)
		checkNumber(t, "P4: Array", 0, api.OK)(h.Array(n))
		checkNumber(t, "P5: Kind", api.Array, api.OK)(h.Kind(0))
		checkNumber(t, "P5: Len", n, api.OK)(h.Len(0))
		want := make([]int, 1+2*n)
		want[0] = 65536 + n
		checkWords(t, h, want...)
	}
}

func TestP4Tables(t *testing.T) {
	for n := 0; n <= api.MaxTable; n++ {
		h := newHeap(t, 512)
		checkNumber(t, "P4: Table", 0, api.OK)(h.Table(n))
		checkNumber(t, "P5: Kind", api.Table, api.OK)(h.Kind(0))
		checkNumber(t, "P5: Len of a table without entries", 0, api.OK)(h.Len(0))
		want := make([]int, 2+4*n)
		want[0] = 3*65536 + n
		checkWords(t, h, want...)
	}
}

// packed tells the words of bytes: for each the sum of byte times 256^number.
func packed(s string) []int {
	words := []int{2*65536 + len(s)}
	for len(s) > 0 {
		part := s[:min(8, len(s))]
		word := uint64(0)
		for i := len(part) - 1; i >= 0; i-- {
			word = word*256 + uint64(part[i])
		}
		words = append(words, int(word))
		s = s[len(part):]
	}
	return words
}

func TestP4Bytes(t *testing.T) {
	texts := []string{"hello", "\x00", "\xff", "\x00\x00\x00\x00\x00\x00\x00\x80", "\x00\x00\x00\x00\x00\x00\x00\x7f", "häßlich", "\xc3\x28\xfe"}
	for n := 0; n <= api.MaxBytes; n++ {
		rising := make([]byte, n)
		for i := range rising {
			rising[i] = byte(37*i + n)
		}
		texts = append(texts, string(rising), strings.Repeat("\x00", n), strings.Repeat("\xff", n))
	}
	for b := 0; b < 256; b++ {
		texts = append(texts, string([]byte{byte(b), 1, 2, byte(b), 3, 4, 5, byte(b), byte(b)}))
	}
	for _, s := range texts {
		h := newHeap(t, 512)
		checkNumber(t, "P4: Bytes", 0, api.OK)(h.Bytes(s))
		checkNumber(t, "P5: Kind", api.Bytes, api.OK)(h.Kind(0))
		checkNumber(t, "P5: Len", len(s), api.OK)(h.Len(0))
		checkText(t, "P5: Text", s, api.OK)(h.Text(0))
		checkWords(t, h, packed(s)...)
	}
}

// The words that the document names by number.
func TestP4WordsByHand(t *testing.T) {
	h := newHeap(t, 20)
	h.Bytes("hello")
	h.Bytes("\xff\xff\xff\xff\xff\xff\xff\xff")
	h.Bytes("\x00\x00\x00\x00\x00\x00\x00\x80\x01")
	checkWords(t, h, 131077, 478560413032, 131080, -1, 131081, -1<<63, 1)
}

// P4: the edges of the sizes, and what lies beyond them.
func TestP4Sizes(t *testing.T) {
	h := newHeap(t, 512)
	checkNumber(t, "P4: Array(17)", 0, api.ErrSize)(h.Array(17))
	checkNumber(t, "P4: Array(-1)", 0, api.ErrSize)(h.Array(-1))
	checkNumber(t, "P4: Table(9)", 0, api.ErrSize)(h.Table(9))
	checkNumber(t, "P4: Table(-1)", 0, api.ErrSize)(h.Table(-1))
	checkNumber(t, "P4: Bytes of 65", 0, api.ErrSize)(h.Bytes(strings.Repeat("a", 65)))
	checkWords(t, h)
	checkNumber(t, "P4: Array(16)", 0, api.OK)(h.Array(16))
	checkNumber(t, "P4: Table(8)", 1, api.OK)(h.Table(8))
	checkNumber(t, "P4: Bytes of 64", 2, api.OK)(h.Bytes(strings.Repeat("a", 64)))
	checkNumber(t, "P4: Array(0)", 3, api.OK)(h.Array(0))
	checkNumber(t, "P4: Table(0)", 4, api.OK)(h.Table(0))
	checkNumber(t, "P4: Bytes of 0", 5, api.OK)(h.Bytes(""))
}

// P4: handles get the slots in order; with all 32 taken there is no further.
func TestP4AllSlots(t *testing.T) {
	h := newHeap(t, 512)
	place := 0
	for x := 0; x < api.MaxHandles; x++ {
		switch x % 3 {
		case 0:
			checkNumber(t, "P4: Array", x, api.OK)(h.Array(x % 4))
		case 1:
			checkNumber(t, "P4: Bytes", x, api.OK)(h.Bytes(strings.Repeat("b", x)))
		default:
			checkNumber(t, "P4: Table", x, api.OK)(h.Table(x % 2))
		}
		checkNumber(t, "P6: Place", place, api.OK)(h.Place(x))
		l, _ := h.Words()
		place = len(l)
	}
	checkUnchanged(t, h, "one handle more", func() {
		checkNumber(t, "P4: Array", 0, api.ErrHandles)(h.Array(0))
		checkNumber(t, "P4: Bytes", 0, api.ErrHandles)(h.Bytes(""))
		checkNumber(t, "P4: Table", 0, api.ErrHandles)(h.Table(0))
	})
}

// P4: objects that hold the same are two.
func TestP4Identity(t *testing.T) {
	h := newHeap(t, 20)
	h.Bytes("same")
	h.Bytes("same")
	checkNumber(t, "P6: Place", 0, api.OK)(h.Place(0))
	checkNumber(t, "P6: Place", 2, api.OK)(h.Place(1))
}

func TestP5TextIsOfBytes(t *testing.T) {
	h := newHeap(t, 50)
	h.Array(0)
	h.Table(0)
	h.Array(3)
	h.Table(3)
	h.Bytes("")
	for x := 0; x < 4; x++ {
		checkText(t, "P5: Text of another kind", "", api.ErrKind)(h.Text(x))
	}
	checkText(t, "P5: Text", "", api.OK)(h.Text(4))
	checkText(t, "P1: ErrStale goes first", "", api.ErrStale)(h.Text(5))
}

// P6: the first example, as far as these calls go.
func TestP6Example(t *testing.T) {
	h := newHeap(t, 20)
	checkNumber(t, "Array(2)", 0, api.OK)(h.Array(2))
	checkNumber(t, "Bytes", 1, api.OK)(h.Bytes("hello"))
	checkWords(t, h, 65538, 0, 0, 0, 0, 131077, 478560413032)
	checkNumber(t, "Place(0)", 0, api.OK)(h.Place(0))
	checkNumber(t, "Place(1)", 5, api.OK)(h.Place(1))
	checkNumber(t, "Len(1)", 5, api.OK)(h.Len(1))
	checkNumber(t, "Kind(0)", 1, api.OK)(h.Kind(0))
	checkText(t, "Text(0)", "", api.ErrKind)(h.Text(0))
	checkNumber(t, "Len(3)", 0, api.ErrStale)(h.Len(3))
	checkNumber(t, "Len(32)", 0, api.ErrStale)(h.Len(32))
	checkNumber(t, "New(8), Array(4)", 0, api.ErrMemory)(newHeap(t, 8).Array(4))
}

// P6: all orders of a few objects lie one behind the other, and reading does
// not change them.
func TestP6ObjectBehindObject(t *testing.T) {
	shapes := [][]int{{65536}, {65538, 0, 0, 0, 0}, packed("abcdefghij"), {196608, 0}, {196609, 0, 0, 0, 0, 0}}
	for number := 0; number < 5*5*5*5; number++ {
		h := newHeap(t, 100)
		want := []int{}
		rest := number
		for x := 0; x < 4; x++ {
			place := len(want)
			checkNumber(t, "P4", x, api.OK)(makeShape(h, rest%5))
			checkNumber(t, "P6: Place", place, api.OK)(h.Place(x))
			want = append(want, shapes[rest%5]...)
			rest /= 5
		}
		checkWords(t, h, want...)
		_, list := look(h)
		_, again := look(h)
		if !slices.Equal(list, again) {
			t.Errorf("P5: case %d answers otherwise the second time", number)
		}
		checkWords(t, h, want...)
	}
}

func makeShape(h *grip.Heap, shape int) (int, api.Errno) {
	switch shape {
	case 0:
		return h.Array(0)
	case 1:
		return h.Array(2)
	case 2:
		return h.Bytes("abcdefghij")
	case 3:
		return h.Table(0)
	default:
		return h.Table(1)
	}
}
