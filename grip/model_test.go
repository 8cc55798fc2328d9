package grip_test

import (
	"fmt"
	"math/rand"
	"slices"
	"testing"

	"grip/api"
	"grip/grip"
)

// thing is an object of the model: it has no place until it is laid out, so
// that its identity is Go's own.
type thing struct {
	kind   int
	text   string
	values []inner // of an array
	room   int     // of a table
	keys   []inner
	under  []inner // the values of the keys
}

// inner is a value in a thing.
type inner struct {
	kind, n int
	what    *thing
}

// model is a heap as the document tells it, of things.
type model struct {
	limit    int
	poisoned bool
	slots    [api.MaxHandles]*thing
	given    [api.MaxHandles]int
	scopes   [api.MaxHandles]int // of the live handles; keptScope for the kept
	open     int
	things   []*thing // in the order in which they lie
	flags    []bool
	made     int // how many objects were to take words
}

// keptScope stands for no scope at all.
const keptScope = 1000

// call is one call, with such arguments as it takes.
type call struct {
	name string
	x, i int
	k, v api.Value
	s    string
}

// answer is what any call answers.
type answer struct {
	n    int
	text string
	v    api.Value
	same bool
	e    api.Errno
}

// ask makes the call on a heap.
func ask(h *grip.Heap, c call) answer {
	a := answer{}
	switch c.name {
	case "Array":
		a.n, a.e = h.Array(c.i)
	case "Bytes":
		a.n, a.e = h.Bytes(c.s)
	case "Table":
		a.n, a.e = h.Table(c.i)
	case "Kind":
		a.n, a.e = h.Kind(c.x)
	case "Len":
		a.n, a.e = h.Len(c.x)
	case "Text":
		a.text, a.e = h.Text(c.x)
	case "Place":
		a.n, a.e = h.Place(c.x)
	case "Get":
		a.v, a.e = h.Get(c.x, c.i)
	case "Set":
		a.e = h.Set(c.x, c.i, c.v)
	case "Find":
		a.v, a.e = h.Find(c.x, c.k)
	case "Put":
		a.e = h.Put(c.x, c.k, c.v)
	case "Cut":
		a.e = h.Cut(c.x, c.k)
	case "Key":
		a.v, a.e = h.Key(c.x, c.i)
	case "Same":
		a.same, a.e = h.Same(c.x, c.i)
	case "Open":
		a.n, a.e = h.Open()
	case "Close":
		a.e = h.Close(c.i)
	case "Escape":
		a.n, a.e = h.Escape(c.x)
	case "Keep":
		a.n, a.e = h.Keep(c.x)
	case "Release":
		a.e = h.Release(c.x)
	case "Collect":
		a.e = h.Collect()
	case "Join":
		a.n, a.e = h.Join(c.x, c.i)
	case "Copy":
		a.n, a.e = h.Copy(c.x)
	}
	return a
}

func (m *model) live(x int) *thing {
	for i, o := range m.slots {
		if o != nil && x == api.MaxHandles*(m.given[i]-1)+i {
			return o
		}
	}
	return nil
}

// kindsOfCalls are those of the objects that some calls are for.
var kindsOfCalls = map[string]int{"Text": api.Bytes, "Join": api.Bytes, "Get": api.Array, "Set": api.Array, "Find": api.Table, "Put": api.Table, "Cut": api.Table, "Key": api.Table}

// refusal tells the errors that go ahead of those that a call names.
func (m *model) refusal(c call) api.Errno {
	handles := []int{}
	values := []api.Value{}
	switch c.name {
	case "Kind", "Len", "Text", "Place", "Get", "Key", "Escape", "Keep", "Release", "Copy":
		handles = append(handles, c.x)
	case "Same", "Join":
		handles = append(handles, c.x, c.i)
	case "Set":
		handles = append(handles, c.x)
		values = append(values, c.v)
	case "Find", "Cut":
		handles = append(handles, c.x)
		values = append(values, c.k)
	case "Put":
		handles = append(handles, c.x)
		values = append(values, c.k, c.v)
	}
	if m.poisoned {
		return api.ErrPoisoned
	}
	withKey := c.name == "Find" || c.name == "Cut" || c.name == "Put"
	for i, v := range values {
		if v.Kind < 0 || v.Kind > 2 || withKey && i == 0 && v.Kind == api.Nil {
			return api.ErrValue
		}
		if v.Kind == api.Obj {
			handles = append(handles, v.N)
		}
	}
	for _, x := range handles {
		if m.live(x) == nil {
			return api.ErrStale
		}
	}
	if kind := kindsOfCalls[c.name]; kind != 0 && m.live(c.x).kind != kind {
		return api.ErrKind
	}
	if c.name == "Join" && m.live(c.i).kind != api.Bytes {
		return api.ErrKind
	}
	return api.OK
}

func (m *model) inward(v api.Value) inner {
	switch v.Kind {
	case api.Int:
		return inner{kind: api.Int, n: v.N}
	case api.Obj:
		return inner{kind: api.Obj, what: m.live(v.N)}
	}
	return inner{}
}

func (m *model) handle(o *thing, scope int) (int, api.Errno) {
	i := slices.Index(m.slots[:], nil)
	if i < 0 {
		return 0, api.ErrHandles
	}
	m.slots[i] = o
	m.scopes[i] = scope
	m.given[i]++
	return api.MaxHandles*(m.given[i]-1) + i, api.OK
}

func (m *model) outward(v inner) answer {
	if v.kind != api.Obj {
		return answer{v: api.Value{Kind: v.kind, N: v.n}}
	}
	x, e := m.handle(v.what, m.open)
	if e != api.OK {
		return answer{e: e}
	}
	return answer{v: obj(x)}
}

func (m *model) add(o *thing) answer {
	if slices.Index(m.slots[:], nil) < 0 {
		return answer{e: api.ErrHandles}
	}
	if len(m.flags) > 0 && m.flags[m.made%len(m.flags)] {
		m.collect()
	}
	m.made++
	if m.inUse()+o.need() > m.limit {
		m.collect()
	}
	if m.inUse()+o.need() > m.limit {
		m.poisoned = true
		return answer{e: api.ErrMemory}
	}
	m.things = append(m.things, o)
	x, e := m.handle(o, m.open)
	return answer{n: x, e: e}
}

func (m *model) addText(s string) answer {
	if len(s) > 64 {
		return answer{e: api.ErrSize}
	}
	return m.add(&thing{kind: api.Bytes, text: s})
}

// need tells how many words a thing takes.
func (o *thing) need() int {
	switch o.kind {
	case api.Array:
		return 1 + 2*len(o.values)
	case api.Bytes:
		return 1 + (len(o.text)+7)/8
	}
	return 2 + 4*o.room
}

// inner tells the values in a thing, in the order of its words.
func (o *thing) inner() []inner {
	list := slices.Clone(o.values)
	for i, k := range o.keys {
		list = append(list, k, o.under[i])
	}
	return list
}

func (m *model) inUse() int {
	sum := 0
	for _, o := range m.things {
		sum += o.need()
	}
	return sum
}

// collect lays out anew what can be reached.
func (m *model) collect() {
	things := []*thing{}
	add := func(o *thing) {
		if o != nil && !slices.Contains(things, o) {
			things = append(things, o)
		}
	}
	for _, o := range m.slots {
		add(o)
	}
	for i := 0; i < len(things); i++ {
		for _, v := range things[i].inner() {
			add(v.what)
		}
	}
	m.things = things
}

// reachable tells how many words the things take that can be reached, by going
// from each into its depth.
func (m *model) reachable() int {
	seen := map[*thing]bool{}
	sum := 0
	var enter func(o *thing)
	enter = func(o *thing) {
		if o == nil || seen[o] {
			return
		}
		seen[o] = true
		sum += o.need()
		for _, v := range o.inner() {
			enter(v.what)
		}
	}
	for _, o := range m.slots {
		enter(o)
	}
	return sum
}

// run makes the call on the model.
func (m *model) run(c call) answer {
	e := m.refusal(c)
	if e != api.OK {
		return answer{e: e}
	}
	o := m.live(c.x)
	switch c.name {
	case "Array":
		if c.i < 0 || c.i > 16 {
			return answer{e: api.ErrSize}
		}
		return m.add(&thing{kind: api.Array, values: make([]inner, c.i)})
	case "Bytes":
		return m.addText(c.s)
	case "Join":
		return m.addText(o.text + m.live(c.i).text)
	case "Copy":
		return m.add(&thing{kind: o.kind, text: o.text, values: slices.Clone(o.values), room: o.room, keys: slices.Clone(o.keys), under: slices.Clone(o.under)})
	case "Collect":
		m.collect()
		return answer{}
	case "Table":
		if c.i < 0 || c.i > 8 {
			return answer{e: api.ErrSize}
		}
		return m.add(&thing{kind: api.Table, room: c.i})
	case "Kind":
		return answer{n: o.kind}
	case "Len":
		return answer{n: len(o.text) + len(o.values) + len(o.keys)}
	case "Text":
		return answer{text: o.text}
	case "Place":
		return answer{n: m.places()[o]}
	case "Same":
		return answer{same: o == m.live(c.i)}
	case "Get", "Set":
		return m.runArray(o, c)
	case "Open", "Close":
		return m.runScopes(c)
	case "Escape", "Keep", "Release":
		return m.runHandles(o, c)
	}
	return m.runTable(o, c)
}

func (m *model) runScopes(c call) answer {
	if c.name == "Open" {
		if m.open == 16 {
			return answer{e: api.ErrScope}
		}
		m.open++
		return answer{n: m.open}
	}
	if c.i != m.open || m.open == 0 {
		return answer{e: api.ErrScope}
	}
	for i, scope := range m.scopes {
		if scope == m.open {
			m.slots[i] = nil
		}
	}
	m.open--
	return answer{}
}

func (m *model) runHandles(o *thing, c call) answer {
	a := answer{}
	switch {
	case c.name == "Keep":
		a.n, a.e = m.handle(o, keptScope)
	case c.name == "Escape" && m.open > 0:
		a.n, a.e = m.handle(o, m.open-1)
	case c.name == "Release" && m.scopes[c.x%32] == keptScope:
		m.slots[c.x%32] = nil
	default:
		a.e = api.ErrScope
	}
	return a
}

func (m *model) runArray(o *thing, c call) answer {
	if c.i < 0 || c.i >= len(o.values) {
		return answer{e: api.ErrIndex}
	}
	if c.name == "Get" {
		return m.outward(o.values[c.i])
	}
	o.values[c.i] = m.inward(c.v)
	return answer{}
}

func (m *model) runTable(o *thing, c call) answer {
	if c.name == "Key" {
		if c.i < 0 || c.i >= len(o.keys) {
			return answer{e: api.ErrIndex}
		}
		return m.outward(o.keys[c.i])
	}
	k := m.inward(c.k)
	at := slices.Index(o.keys, k)
	switch {
	case c.name == "Put" && at >= 0:
		o.under[at] = m.inward(c.v)
	case c.name == "Put" && len(o.keys) == o.room:
		return answer{e: api.ErrFull}
	case c.name == "Put":
		o.keys = append(o.keys, k)
		o.under = append(o.under, m.inward(c.v))
	case at < 0:
		return answer{e: api.ErrNone}
	case c.name == "Find":
		return m.outward(o.under[at])
	default:
		o.keys = slices.Delete(o.keys, at, at+1)
		o.under = slices.Delete(o.under, at, at+1)
	}
	return answer{}
}

// places tells where the things lie.
func (m *model) places() map[*thing]int {
	places := map[*thing]int{}
	place := 0
	for _, o := range m.things {
		places[o] = place
		place += o.need()
	}
	return places
}

func (m *model) words() []int {
	places := m.places()
	words := []int{}
	for _, o := range m.things {
		switch o.kind {
		case api.Array:
			words = append(words, 65536+len(o.values))
			for _, v := range o.values {
				words = append(words, v.kind, v.n+places[v.what])
			}
		case api.Bytes:
			words = append(words, packed(o.text)...)
		default:
			rows := [][4]int{}
			for i, k := range o.keys {
				v := o.under[i]
				rows = append(rows, [4]int{k.kind, k.n + places[k.what], v.kind, v.n + places[v.what]})
			}
			words = append(words, tableWords(o.room, rows...)...)
		}
	}
	return words
}

// someNumber is mostly small, and at times great.
func someNumber(r *rand.Rand, most int) int {
	if r.Intn(40) == 0 {
		return greatNumbers[r.Intn(len(greatNumbers))]
	}
	return r.Intn(most+2) - 1
}

// someHandle is mostly a live handle of an object of the kind (of any, if it
// is 0).
func (m *model) someHandle(r *rand.Rand, kind int) int {
	fitting := []int{}
	for i, o := range m.slots {
		if o != nil && (kind == 0 || o.kind == kind) {
			fitting = append(fitting, api.MaxHandles*(m.given[i]-1)+i)
		}
	}
	if len(fitting) == 0 || r.Intn(12) == 0 {
		return m.someStale(r)
	}
	return fitting[r.Intn(len(fitting))]
}

// someStale is mostly a number that no live handle has: one that a slot's
// earlier handles had, or the next ones will have.
func (m *model) someStale(r *rand.Rand) int {
	if r.Intn(3) == 0 {
		return someNumber(r, 2*api.MaxHandles)
	}
	i := r.Intn(api.MaxHandles)
	return api.MaxHandles*r.Intn(m.given[i]+1) + i
}

// someKept is mostly a kept handle.
func (m *model) someKept(r *rand.Rand) int {
	for i, o := range m.slots {
		if o != nil && m.scopes[i] == keptScope && r.Intn(3) > 0 {
			return api.MaxHandles*(m.given[i]-1) + i
		}
	}
	return m.someHandle(r, 0)
}

func (m *model) someValue(r *rand.Rand) api.Value {
	switch n := r.Intn(40); {
	case n == 0:
		return noValues[r.Intn(len(noValues))]
	case n < 4:
		return api.Value{Kind: api.Nil, N: r.Intn(3)}
	case n < 20:
		return num(someNumber(r, 3))
	}
	return obj(m.someHandle(r, 0))
}

// someKey is often one that the table of x has.
func (m *model) someKey(r *rand.Rand, x int) api.Value {
	o := m.live(x)
	if o == nil || len(o.keys) == 0 || r.Intn(2) == 0 {
		return m.someValue(r)
	}
	k := o.keys[r.Intn(len(o.keys))]
	i := slices.Index(m.slots[:], k.what)
	switch {
	case k.kind == api.Int:
		return num(k.n)
	case i >= 0:
		return obj(api.MaxHandles*(m.given[i]-1) + i)
	}
	return m.someValue(r)
}

// someText is mostly short, and at times about as long as may be.
func someText(r *rand.Rand) string {
	length := r.Intn(20)
	if r.Intn(5) == 0 {
		length = 20 + r.Intn(48)
	}
	text := make([]byte, length)
	r.Read(text)
	return string(text)
}

// someFlags are often none, mostly few, and at times as many as may be.
func someFlags(r *rand.Rand) []bool {
	count := 0
	switch r.Intn(5) {
	case 0:
		count = api.MaxFlags
	case 1, 2:
		count = 1 + r.Intn(6)
	}
	flags := make([]bool, count)
	for i := range flags {
		flags[i] = r.Intn(3) == 0
	}
	return flags
}

// someCall is mostly one that goes well, so that there is something to change.
func (m *model) someCall(r *rand.Rand) call {
	names := []string{"Array", "Bytes", "Table", "Kind", "Len", "Text", "Place", "Get", "Set", "Set", "Find", "Put", "Put", "Put", "Cut", "Key", "Same", "Open", "Close", "Escape", "Keep", "Release", "Collect", "Join", "Copy", "Copy"}
	c := call{name: names[r.Intn(len(names))], i: someNumber(r, 4)}
	kind := kindsOfCalls[c.name]
	if r.Intn(8) == 0 {
		kind = 0
	}
	c.x = m.someHandle(r, kind)
	if c.name == "Same" {
		c.i = m.someHandle(r, 0)
	}
	if c.name == "Join" {
		c.i = m.someHandle(r, kind)
	}
	if c.name == "Close" && r.Intn(4) > 0 {
		c.i = m.open
	}
	if c.name == "Release" {
		c.x = m.someKept(r)
	}
	c.k = m.someKey(r, c.x)
	c.v = m.someValue(r)
	c.s = someText(r)
	return c
}

// P1, P4 to P15: heaps and the model answer the same to many calls, and have
// the same words behind each.
func TestModel(t *testing.T) {
	came := map[string]map[api.Errno]int{}
	for name := range errorsOfCalls {
		came[name] = map[api.Errno]int{}
	}
	for seed := int64(0); seed < 800; seed++ {
		r := rand.New(rand.NewSource(seed))
		limit := api.MaxWords
		if seed%2 == 0 {
			limit = 1 + r.Intn(200)
		}
		m := &model{limit: limit, flags: someFlags(r)}
		compare(t, r, m, came)
	}
	checkCame(t, came)
}

// compare makes many calls on a model and on a heap.
func compare(t *testing.T, r *rand.Rand, m *model, came map[string]map[api.Errno]int) {
	t.Helper()
	h := newHeap(t, m.limit, m.flags...)
	history := []call{}
	for poisoned := 0; len(history) < 400 && poisoned < 40; {
		c := m.someCall(r)
		history = append(history, c)
		want := m.run(c)
		got := ask(h, c)
		came[c.name][got.e]++
		if got != want {
			t.Fatalf("%+v, want %+v, to the last of%s", got, want, m.told(history))
		}
		if m.poisoned {
			poisoned++
			continue
		}
		words, e := h.Words()
		if !slices.Equal(words, m.words()) || e != api.OK {
			t.Fatalf("Words = %v, error %d, want %v, behind%s", words, e, m.words(), m.told(history))
		}
	}
}

// told tells what was called.
func (m *model) told(history []call) string {
	s := fmt.Sprintf(" New(%d, %v)", m.limit, m.flags)
	for _, c := range history {
		s += fmt.Sprintf("\n%#v", c)
	}
	return s
}

// errorsOfCalls are the errors that a call can answer, but ErrPoisoned, which
// each can.
var errorsOfCalls = map[string][]api.Errno{
	"Array":   {api.OK, api.ErrSize, api.ErrHandles, api.ErrMemory},
	"Bytes":   {api.OK, api.ErrSize, api.ErrHandles, api.ErrMemory},
	"Table":   {api.OK, api.ErrSize, api.ErrHandles, api.ErrMemory},
	"Kind":    {api.OK, api.ErrStale},
	"Len":     {api.OK, api.ErrStale},
	"Text":    {api.OK, api.ErrStale, api.ErrKind},
	"Place":   {api.OK, api.ErrStale},
	"Get":     {api.OK, api.ErrStale, api.ErrKind, api.ErrIndex, api.ErrHandles},
	"Set":     {api.OK, api.ErrValue, api.ErrStale, api.ErrKind, api.ErrIndex},
	"Find":    {api.OK, api.ErrValue, api.ErrStale, api.ErrKind, api.ErrNone, api.ErrHandles},
	"Put":     {api.OK, api.ErrValue, api.ErrStale, api.ErrKind, api.ErrFull},
	"Cut":     {api.OK, api.ErrValue, api.ErrStale, api.ErrKind, api.ErrNone},
	"Key":     {api.OK, api.ErrStale, api.ErrKind, api.ErrIndex, api.ErrHandles},
	"Same":    {api.OK, api.ErrStale},
	"Open":    {api.OK, api.ErrScope},
	"Close":   {api.OK, api.ErrScope},
	"Escape":  {api.OK, api.ErrStale, api.ErrScope, api.ErrHandles},
	"Keep":    {api.OK, api.ErrStale, api.ErrHandles},
	"Release": {api.OK, api.ErrStale, api.ErrScope},
	"Collect": {api.OK},
	"Join":    {api.OK, api.ErrStale, api.ErrKind, api.ErrSize, api.ErrHandles, api.ErrMemory},
	"Copy":    {api.OK, api.ErrStale, api.ErrHandles, api.ErrMemory},
}

// checkCame looks whether each answer came often enough: one that hardly comes
// would be tested little.
func checkCame(t *testing.T, came map[string]map[api.Errno]int) {
	for name, list := range errorsOfCalls {
		for _, e := range append([]api.Errno{api.ErrPoisoned}, list...) {
			if came[name][e] < 10 {
				t.Errorf("%s answered error %d only %d times", name, e, came[name][e])
			}
		}
	}
}
