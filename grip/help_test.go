package grip_test

import (
	"slices"
	"testing"

	"grip/api"
	"grip/grip"
)

var greatNumbers = []int{-1 << 63, -1<<63 + 1, -1 << 32, -65536, 1 << 31, 1 << 32, 1 << 61, 1 << 62, 1<<63 - 32, 1<<63 - 1}

func newHeap(t *testing.T, limit int, flags ...bool) *grip.Heap {
	t.Helper()
	h, e := grip.New(limit, flags)
	if h == nil || e != api.OK {
		t.Fatalf("New(%d, %v) = %v, %d", limit, flags, h, e)
	}
	return h
}

// checkNumber looks at what a call answered: a number, or 0 and an error.
func checkNumber(t *testing.T, what string, want int, wantErr api.Errno) func(int, api.Errno) {
	return func(n int, e api.Errno) {
		t.Helper()
		if n != want || e != wantErr {
			t.Errorf("%s = %d, error %d; want %d, error %d", what, n, e, want, wantErr)
		}
	}
}

func checkText(t *testing.T, what string, want string, wantErr api.Errno) func(string, api.Errno) {
	return func(s string, e api.Errno) {
		t.Helper()
		if s != want || e != wantErr {
			t.Errorf("%s = %q, error %d; want %q, error %d", what, s, e, want, wantErr)
		}
	}
}

func num(n int) api.Value { return api.Value{Kind: api.Int, N: n} }
func obj(x int) api.Value { return api.Value{Kind: api.Obj, N: x} }

var none api.Value

// noValues have kinds that no value has.
var noValues = []api.Value{{Kind: 3}, {Kind: -1}, {Kind: 3, N: 1}, {Kind: 4, N: 99}, {Kind: 1 << 32}, {Kind: 1<<32 + 1}, {Kind: 1<<62 + 2}, {Kind: -1 << 63}, {Kind: 1<<63 - 1}}

// noHandles are no handles' numbers where only the slots 0 to 5 were given,
// and those once.
var noHandles = append([]int{6, 31, 32, 33, 36, 64, 65, -1, -2, -31, -32}, greatNumbers...)

func checkValue(t *testing.T, what string, want api.Value, wantErr api.Errno) func(api.Value, api.Errno) {
	return func(v api.Value, e api.Errno) {
		t.Helper()
		if v != want || e != wantErr {
			t.Errorf("%s = %v, error %d; want %v, error %d", what, v, e, want, wantErr)
		}
	}
}

func checkSame(t *testing.T, what string, want bool, wantErr api.Errno) func(bool, api.Errno) {
	return func(same bool, e api.Errno) {
		t.Helper()
		if same != want || e != wantErr {
			t.Errorf("%s = %v, error %d; want %v, error %d", what, same, e, want, wantErr)
		}
	}
}

func checkError(t *testing.T, what string, want api.Errno, e api.Errno) {
	t.Helper()
	if e != want {
		t.Errorf("%s: error %d, want %d", what, e, want)
	}
}

func checkWords(t *testing.T, h *grip.Heap, want ...int) {
	t.Helper()
	l, e := h.Words()
	if !slices.Equal(l, want) || e != api.OK {
		t.Errorf("Words = %v, error %d; want %v", l, e, want)
	}
}

func checkLive(t *testing.T, h *grip.Heap, list ...int) {
	t.Helper()
	for _, x := range list {
		if _, e := h.Kind(x); e != api.OK {
			t.Errorf("handle %d: error %d", x, e)
		}
	}
}

// checkEnded is checkStale of several numbers.
func checkEnded(t *testing.T, h *grip.Heap, list ...int) {
	t.Helper()
	for _, x := range list {
		checkStale(t, h, x)
	}
}

// facts is what can be seen of a handle.
type facts struct {
	kind, length, place     int
	text                    string
	kindE, lenE, placeE, tE api.Errno
}

// look tells all that can be seen of a heap: its words, and of each number
// that could be a handle's in its slots' first four rounds, and below 0, what
// the calls answer.
func look(h *grip.Heap) ([]int, []facts) {
	words, _ := h.Words()
	list := []facts{}
	for x := -3; x < 4*api.MaxHandles; x++ {
		f := facts{}
		f.kind, f.kindE = h.Kind(x)
		f.length, f.lenE = h.Len(x)
		f.place, f.placeE = h.Place(x)
		f.text, f.tE = h.Text(x)
		list = append(list, f)
	}
	return words, list
}

// innermost tells the number of the innermost open scope, by opening one within
// it and closing that again.
func innermost(h *grip.Heap) int {
	n, e := h.Open()
	if e != api.OK {
		return api.MaxScopes
	}
	h.Close(n)
	return n - 1
}

// checkUnchanged runs a call that is to be refused, and compares what can be
// seen of the heap ahead of it and behind it.
func checkUnchanged(t *testing.T, h *grip.Heap, what string, call func()) {
	t.Helper()
	words, list := look(h)
	scope := innermost(h)
	call()
	wordsThen, listThen := look(h)
	scopeThen := innermost(h)
	if !slices.Equal(words, wordsThen) || !slices.Equal(list, listThen) || scope != scopeThen {
		t.Errorf("%s was refused, and changed the heap", what)
	}
}
