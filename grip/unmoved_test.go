package grip_test

import (
	"fmt"
	"math/rand"
	"slices"
	"testing"

	"grip/api"
	"grip/grip"
)

// described tells what the calls of P15 answer for a handle, and for what its
// object holds, so many steps deep; handles by which of the known ones have
// the same object.
func described(h *grip.Heap, known []int, x int, steps int) string {
	kind, e := h.Kind(x)
	length, f := h.Len(x)
	text, g := h.Text(x)
	s := fmt.Sprint("(", kind, e, length, f, text, g)
	for i, y := range known {
		same, e := h.Same(x, y)
		if same || e != api.OK {
			s += fmt.Sprint(" known ", i, e)
		}
	}
	n, _ := h.Open()
	value := func(v api.Value, e api.Errno) {
		if v.Kind == api.Obj && steps > 0 {
			s += described(h, known, v.N, steps-1)
		} else if v.Kind != api.Obj {
			s += fmt.Sprint(" ", v, e)
		}
	}
	for i := 0; i <= length; i++ {
		value(h.Get(x, i))
		k, e := h.Key(x, i)
		value(k, e)
		value(h.Find(x, k))
	}
	h.Close(n)
	return s + ")"
}

// P15: what the calls answer stays, however often all is moved to and fro:
// between the rounds objects come and go, in front too, and slots change.
func TestP15AnswersStay(t *testing.T) {
	for _, flags := range [][]bool{nil, {true}, {true, false, false}} {
		h := newHeap(t, 70, flags...)
		h.Open()
		h.Bytes("same") // 0
		h.Array(3)      // 1
		h.Table(3)      // 2
		h.Bytes("same") // 3
		h.Set(1, 0, obj(2))
		h.Set(1, 1, num(5))
		h.Set(1, 2, obj(3))
		h.Put(2, obj(0), obj(1))
		h.Put(2, num(0), obj(2))
		h.Put(2, obj(3), num(2))
		known := []int{0, 1, 2, 3}
		for i, x := range known {
			known[i], _ = h.Keep(x)
		}
		h.Close(1)
		want := []string{}
		for _, x := range known {
			want = append(want, described(h, known, x, 3))
		}
		for round := 0; round < 40; round++ {
			checkNumber(t, "P10: Open", 1, api.OK)(h.Open())
			h.Array(round % 7)
			i := round % len(known)
			x, e := h.Keep(known[i])
			checkError(t, "P11: Keep", api.OK, e)
			checkError(t, "P11: Release", api.OK, h.Release(known[i]))
			known[i] = x
			h.Close(1)
			if round%2 == 0 {
				checkError(t, "P12: Collect", api.OK, h.Collect())
			}
			for i, x := range known {
				if got := described(h, known, x, 3); got != want[i] {
					t.Fatalf("P15: round %d, object %d: %s\nwant %s", round, i, got, want[i])
				}
			}
		}
	}
}

// P15: a number is stale until a handle with it is made, and for ever when
// that has ended; collecting is no matter to that.
func TestP15StaleForEver(t *testing.T) {
	h := newHeap(t, 20, true, false)
	h.Array(0)
	for round := 0; round < 30; round++ {
		x := 1 + 32*round
		checkEnded(t, h, x, x+32)
		h.Collect()
		checkEnded(t, h, x)
		h.Open()
		checkNumber(t, "P4: Bytes", x, api.OK)(h.Bytes("a"))
		checkText(t, "P5: Text", "a", api.OK)(h.Text(x))
		h.Collect()
		checkText(t, "P5: Text", "a", api.OK)(h.Text(x))
		checkEnded(t, h, x+32)
		h.Close(1)
		checkEnded(t, h, x)
	}
	for x := 1; x < 32*32; x++ {
		checkEnded(t, h, x)
	}
}

// limited is a heap with what it was made of.
type limited struct {
	h     *grip.Heap
	limit int
	flags []bool
	out   bool // it has answered ErrMemory
}

// manyHeaps are heaps with small and great limits, with all flags true, none,
// and mixed ones.
func manyHeaps(t *testing.T, r *rand.Rand) []*limited {
	t.Helper()
	list := []*limited{{limit: 512}, {limit: 512, flags: []bool{true}}, {limit: 511, flags: someFlags(r)}}
	for i := 0; i < 5; i++ {
		list = append(list, &limited{limit: 10 + r.Intn(50)<<i, flags: someFlags(r)})
	}
	for _, g := range list {
		g.h = newHeap(t, min(g.limit, 512), g.flags...)
		g.limit = min(g.limit, 512)
	}
	return list
}

// P16, P17: the same calls on heaps with other limits and flags answer the
// same, as on a model that never runs out, but to Place, Words and Collect,
// until one answers ErrMemory; and that is just where what can be reached and
// the new object are more than the limit.
func TestP16P17OtherLimitsAndFlags(t *testing.T) {
	makes := []string{"Array", "Bytes", "Table", "Join", "Copy"}
	ranOut := 0
	for seed := int64(0); seed < 300; seed++ {
		r := rand.New(rand.NewSource(seed))
		m := &model{limit: 1 << 40}
		list := manyHeaps(t, r)
		for step := 0; step < 300; step++ {
			c := m.someCall(r)
			want := m.run(c)
			need := 0 // of all that can be reached then, the new object too
			if want.e == api.OK && slices.Contains(makes, c.name) {
				need = m.reachable()
			}
			for _, g := range list {
				if g.out {
					continue
				}
				got := ask(g.h, c)
				if (got.e == api.ErrMemory) != (need > g.limit) {
					t.Fatalf("P17: seed %d, step %d: %+v answered %+v, where %d words are needed of %d", seed, step, c, got, need, g.limit)
				}
				if got.e == api.ErrMemory {
					g.out = true
					ranOut++
					continue
				}
				if c.name == "Place" {
					got.n = want.n
				}
				if got != want {
					t.Fatalf("P16: seed %d, step %d, limit %d, flags %v: %+v answered %+v, want %+v", seed, step, g.limit, g.flags, c, got, want)
				}
				checkInUse(t, g, m, c)
			}
		}
	}
	if ranOut < 100 {
		t.Errorf("only %d heaps ran out of memory", ranOut)
	}
}

// checkInUse looks at how many words are in use: never more than the limit nor
// less than can be reached; behind Collect just those.
func checkInUse(t *testing.T, g *limited, m *model, c call) {
	t.Helper()
	n, e := count(g.h)
	reachable := m.reachable()
	if e != api.OK || n > g.limit || n < reachable || c.name == "Collect" && n != reachable {
		t.Fatalf("P17: %d words in use behind %s, error %d, with the limit %d, where %d can be reached", n, c.name, e, g.limit, reachable)
	}
}

// P16: a heap that runs out is no matter to the other, which goes on.
func TestP16OneRunsOut(t *testing.T) {
	small := newHeap(t, 12, true)
	great := newHeap(t, 13)
	for _, h := range []*grip.Heap{small, great} {
		h.Open()
		checkNumber(t, "P4: Array", 0, api.OK)(h.Array(1))
		checkNumber(t, "P11: Escape", 1, api.OK)(h.Escape(0))
		checkError(t, "P10: Close", api.OK, h.Close(1))
		checkNumber(t, "P4: Bytes", 32, api.OK)(h.Bytes("abc"))
		checkNumber(t, "P14: Join", 2, api.OK)(h.Join(32, 32))
	}
	checkNumber(t, "P4: one word too many", 0, api.ErrMemory)(small.Table(1))
	checkNumber(t, "P4: it fits", 3, api.OK)(great.Table(1))
	checkText(t, "P5: Text", "", api.ErrPoisoned)(small.Text(2))
	checkText(t, "P5: Text", "abcabc", api.OK)(great.Text(2))
}

// P17: what is held only by objects that are held counts, and counts once,
// however many hold it and however many handles there are.
func TestP17ReachableCountsOnce(t *testing.T) {
	for _, c := range []struct {
		limit, x int
		e        api.Errno
	}{{23, 33, api.OK}, {22, 0, api.ErrMemory}} {
		h := newHeap(t, c.limit)
		h.Open()
		h.Array(2)      // 5 words
		h.Table(1)      // 6 words
		h.Bytes("once") // 2 words
		h.Set(0, 0, obj(1))
		h.Set(0, 1, obj(2))
		h.Put(1, obj(2), obj(2))
		h.Keep(0)
		h.Keep(0)
		h.Keep(2)
		h.Array(4) // 9 words, gone with the scope
		h.Close(1)
		checkNumber(t, "P17: Array(4)", 32, api.OK)(h.Array(4))
		checkNumber(t, "P17: words", 22, api.OK)(count(h))
		checkNumber(t, "P17: Array(0)", c.x, c.e)(h.Array(0))
	}
}

// P17: a ring of arrays is gone as a whole, with the last handle of one of them.
func TestP17RingIsGone(t *testing.T) {
	h := newHeap(t, 12)
	for round := 0; round < 50; round++ {
		h.Open()
		first := -1
		for i := 0; i < 4; i++ {
			x, e := h.Array(1)
			checkError(t, "P17: Array", api.OK, e)
			if first < 0 {
				first = x
			} else {
				checkError(t, "P7: Set", api.OK, h.Set(x, 0, obj(x-1)))
			}
		}
		h.Set(first, 0, obj(first+3))
		h.Close(1)
	}
	h.Collect()
	checkWords(t, h)
}
