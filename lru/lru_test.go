package lru

import (
	"math"
	"math/rand/v2"
	"slices"
	"strconv"
	"testing"

	"hopper/api"
)

const greatest = math.MaxUint64

// mark is what a test writes over lists: no list of a test has it as a key.
const mark = 0xdead

// list writes a list of keys shortly.
func list(keys ...uint64) []uint64 { return keys }

// state is the one of a capacity with just these keys, by calls.
func state(c int, keys ...uint64) State {
	s := New(c)
	for _, k := range slices.Backward(keys) {
		s, _ = Admit(s, k)
	}
	return s
}

// run is a list of so many keys, from 1 on.
func run(count int) []uint64 {
	l := make([]uint64, count)
	for i := range l {
		l[i] = uint64(i) + 1
	}
	return l
}

// model is the policy told plainly: when each key was used last.
type model struct {
	c, now int
	used   map[uint64]int
}

func newModel(c int) *model {
	return &model{c: inBounds(c), used: map[uint64]int{}}
}

func inBounds(c int) int {
	if c < 1 {
		return 1
	}
	if c > 1048576 {
		return 1048576
	}
	return c
}

func (m *model) has(k uint64) bool {
	_, ok := m.used[k]
	return ok
}

func (m *model) use(k uint64) {
	m.now++
	m.used[k] = m.now
}

// keys are the model's, the last one used first.
func (m *model) keys() []uint64 {
	var all []uint64
	for k := range m.used {
		all = append(all, k)
	}
	slices.SortFunc(all, func(a, b uint64) int { return m.used[b] - m.used[a] })
	return all
}

// evict takes the key out that wasn't used for the longest time, one by one.
func (m *model) evict(most int) []uint64 {
	var out []uint64
	for len(m.used) > most {
		keys := m.keys()
		last := keys[len(keys)-1]
		delete(m.used, last)
		out = append(out, last)
	}
	return out
}

// kind is one of the calls that change a state.
type kind int

const (
	touch kind = iota
	admit
	drop
	resize
)

// step is such a call, with its key, or its capacity.
type step struct {
	kind kind
	k    uint64
	c    int
}

func (p step) String() string {
	switch p.kind {
	case touch:
		return "Touch " + strconv.FormatUint(p.k, 10)
	case admit:
		return "Admit " + strconv.FormatUint(p.k, 10)
	case drop:
		return "Drop " + strconv.FormatUint(p.k, 10)
	}
	return "Resize " + strconv.Itoa(p.c)
}

// do takes a step from a state.
func (p step) do(s State) (State, []uint64) {
	switch p.kind {
	case touch:
		return Touch(s, p.k), nil
	case admit:
		return Admit(s, p.k)
	case drop:
		return Drop(s, p.k), nil
	}
	return Resize(s, p.c)
}

// follow takes it in the model.
func (p step) follow(m *model) []uint64 {
	switch p.kind {
	case touch:
		if m.has(p.k) {
			m.use(p.k)
		}
	case admit:
		if m.has(p.k) {
			return nil
		}
		out := m.evict(m.c - 1)
		m.use(p.k)
		return out
	case drop:
		delete(m.used, p.k)
	case resize:
		m.c = inBounds(p.c)
		return m.evict(m.c)
	}
	return nil
}

// triedKeys are those that steps are tried with: some of them are there, some aren't, and 9 never is.
func triedKeys() []uint64 { return list(0, 1, 2, 1<<32, greatest, 9) }

// triedSteps are all calls that change a state, with those keys, and capacities of all sorts.
func triedSteps() []step {
	var all []step
	for _, k := range triedKeys() {
		all = append(all, step{kind: touch, k: k}, step{kind: admit, k: k}, step{kind: drop, k: k})
	}
	for _, c := range []int{math.MinInt, -1, 0, 1, 2, 3, 4, 5, 6, 1048576, 1048577, math.MaxInt} {
		all = append(all, step{kind: resize, c: c})
	}
	return all
}

// triedStates are all states of capacities from 1 to 4 with keys that are tried, but for 9.
func triedStates() []State {
	var all []State
	for c := 1; c <= 4; c++ {
		for _, l := range apartLists(c, triedKeys()[:5]) {
			all = append(all, state(c, l...))
		}
	}
	return all
}

// apartLists are all lists of some keys, each once, that have no more than so many.
func apartLists(most int, keys []uint64) [][]uint64 {
	lists := [][]uint64{nil}
	for from, length := 0, 0; length < most; length++ {
		shorter := lists[from:]
		from = len(lists)
		for _, l := range shorter {
			for _, k := range keys {
				if !slices.Contains(l, k) {
					lists = append(lists, append(slices.Clone(l), k))
				}
			}
		}
	}
	return lists
}

// modelOf has a state's capacity and keys.
func modelOf(s State) *model {
	m := newModel(s.C)
	for _, k := range slices.Backward(s.L) {
		m.use(k)
	}
	return m
}

// cloned is a state with a copy of its list.
func cloned(s State) State {
	s.L = slices.Clone(s.L)
	return s
}

func same(t *testing.T, what string, got, want []uint64) {
	t.Helper()
	if !slices.Equal(got, want) {
		t.Errorf("%s: %d, not %d", what, got, want)
	}
}

// sameState holds a state against another one.
func sameState(t *testing.T, what string, got, want State) {
	t.Helper()
	if got.C != want.C || !slices.Equal(got.L, want.L) {
		t.Errorf("%s: %d, not %d", what, got, want)
	}
}

// fits holds a state, and all that is asked of it, against the model.
func fits(t *testing.T, what string, s State, m *model) {
	t.Helper()
	keys := m.keys()
	sameState(t, what, s, State{m.c, keys})
	same(t, what+", Keys", Keys(s), keys)
	if g := Ghosts(s); g != 0 {
		t.Errorf("%s, Ghosts: %d", what, g)
	}
	for _, k := range triedKeys() {
		if Has(s, k) != m.has(k) {
			t.Errorf("%s, Has %d: %t", what, k, Has(s, k))
		}
	}
	if len(s.L) > s.C {
		t.Errorf("%s: %d keys of %d", what, len(s.L), s.C)
	}
}

// P8.1: New, of capacities below 1, from 1 on, the greatest one, and above it.
func TestNew(t *testing.T) {
	for _, c := range []struct{ c, want int }{
		{math.MinInt, 1}, {-1, 1}, {0, 1}, {1, 1}, {2, 2}, {7, 7},
		{1048575, 1048575}, {1048576, 1048576}, {1048577, 1048576}, {math.MaxInt, 1048576},
	} {
		s := New(c.c)
		if s.C != c.want || len(s.L) > 0 || len(Keys(s)) > 0 || Ghosts(s) != 0 || Has(s, 0) {
			t.Errorf("%d: %d", c.c, s)
		}
	}
}

// P8.1: Touch of a key at the front, in the middle, at the back, and of one that isn't there.
func TestTouch(t *testing.T) {
	for _, c := range []struct {
		s    State
		k    uint64
		want []uint64
	}{
		{New(2), 0, nil},
		{New(2), greatest, nil},
		{state(1, 0), 0, list(0)},
		{state(1, 0), greatest, list(0)},
		{state(1, greatest), greatest, list(greatest)},
		{state(1, greatest), 0, list(greatest)},
		{state(2, 0, greatest), greatest, list(greatest, 0)},
		{state(2, greatest, 0), 0, list(0, greatest)},
		{state(3, 1, 2, 3), 1, list(1, 2, 3)},
		{state(3, 1, 2, 3), 2, list(2, 1, 3)},
		{state(3, 1, 2, 3), 3, list(3, 1, 2)},
		{state(3, 1, 2, 3), 4, list(1, 2, 3)},
		{state(9, 1, 2), 4, list(1, 2)},
		{state(3, 1, 2, 3), 1<<32 | 1, list(1, 2, 3)},
	} {
		sameState(t, "Touch", Touch(c.s, c.k), State{c.s.C, c.want})
	}
}

// P8.2: Admit of a key that is there, where it stays in its place, and of one that isn't, with room and without.
func TestAdmit(t *testing.T) {
	for _, c := range []struct {
		s         State
		k         uint64
		want, out []uint64
	}{
		{New(1), 0, list(0), nil},
		{New(1), greatest, list(greatest), nil},
		{New(-5), 3, list(3), nil},
		{state(1, 0), 0, list(0), nil},
		{state(1, 0), greatest, list(greatest), list(0)},
		{state(1, greatest), 0, list(0), list(greatest)},
		{state(2, 0), greatest, list(greatest, 0), nil},
		{state(2, 1, 2), 1, list(1, 2), nil},
		{state(2, 1, 2), 2, list(1, 2), nil},
		{state(2, 1, 2), 3, list(3, 1), list(2)},
		{state(3, 1, 2), 2, list(1, 2), nil},
		{state(3, 1, 2), 3, list(3, 1, 2), nil},
		{state(3, 1, 2, 3), 2, list(1, 2, 3), nil},
		{state(3, 1, 2, 3), 3, list(1, 2, 3), nil},
		{state(3, 1, 2, 3), 4, list(4, 1, 2), list(3)},
		{state(1048577, 1, 2, 3), 4, list(4, 1, 2, 3), nil},
	} {
		got, out := Admit(c.s, c.k)
		sameState(t, "Admit", got, State{c.s.C, c.want})
		same(t, "Admit, evicted", out, c.out)
	}
}

// P8.1: Drop of a key that is there, and of one that isn't; what is dropped isn't there, and makes room.
func TestDrop(t *testing.T) {
	for _, c := range []struct {
		s    State
		k    uint64
		want []uint64
	}{
		{New(1), 0, nil},
		{state(1, 0), 0, nil},
		{state(1, 0), greatest, list(0)},
		{state(2, greatest, 0), greatest, list(0)},
		{state(3, 1, 2, 3), 1, list(2, 3)},
		{state(3, 1, 2, 3), 2, list(1, 3)},
		{state(3, 1, 2, 3), 3, list(1, 2)},
		{state(3, 1, 2, 3), 4, list(1, 2, 3)},
	} {
		sameState(t, "Drop", Drop(c.s, c.k), State{c.s.C, c.want})
	}
	s, out := Admit(Drop(state(3, 1, 2, 3), 2), 4)
	sameState(t, "Admit behind a Drop", s, State{3, list(4, 1, 3)})
	same(t, "Admit behind a Drop, evicted", out, nil)
	s, out = Admit(Drop(state(3, 1, 2, 3), 2), 2)
	sameState(t, "Admit of what was dropped", s, State{3, list(2, 1, 3)})
	same(t, "Admit of what was dropped, evicted", out, nil)
}

// P8.2, P6: Resize to more, to the same, to less, to 1, below 1, and above the greatest one; the last one is evicted first.
func TestResize(t *testing.T) {
	for _, c := range []struct {
		s         State
		c, newC   int
		want, out []uint64
	}{
		{New(3), 5, 5, nil, nil},
		{New(3), 0, 1, nil, nil},
		{New(3), math.MaxInt, 1048576, nil, nil},
		{state(4, 1, 2, 3, 4), 9, 9, list(1, 2, 3, 4), nil},
		{state(4, 1, 2, 3, 4), 5, 5, list(1, 2, 3, 4), nil},
		{state(4, 1, 2, 3, 4), 4, 4, list(1, 2, 3, 4), nil},
		{state(4, 1, 2, 3, 4), 3, 3, list(1, 2, 3), list(4)},
		{state(4, 1, 2, 3, 4), 2, 2, list(1, 2), list(4, 3)},
		{state(4, 1, 2, 3, 4), 1, 1, list(1), list(4, 3, 2)},
		{state(4, 1, 2, 3, 4), 0, 1, list(1), list(4, 3, 2)},
		{state(4, 1, 2, 3, 4), -7, 1, list(1), list(4, 3, 2)},
		{state(4, 1, 2, 3, 4), math.MinInt, 1, list(1), list(4, 3, 2)},
		{state(4, 1, 2, 3, 4), 1048576, 1048576, list(1, 2, 3, 4), nil},
		{state(4, 1, 2, 3, 4), 1048577, 1048576, list(1, 2, 3, 4), nil},
		{state(9, 1, 2), 3, 3, list(1, 2), nil},
		{state(9, 1, 2), 2, 2, list(1, 2), nil},
		{state(9, 0, greatest), 1, 1, list(0), list(greatest)},
		{state(1, greatest), 1, 1, list(greatest), nil},
	} {
		got, out := Resize(c.s, c.c)
		sameState(t, "Resize", got, State{c.newC, c.want})
		same(t, "Resize, evicted", out, c.out)
	}
	s, _ := Resize(state(2, 1, 2), 3)
	s, out := Admit(s, 3)
	sameState(t, "Admit behind a Resize", s, State{3, list(3, 1, 2)})
	same(t, "Admit behind a Resize, evicted", out, nil)
}

// P8.3: Has, Keys and Ghosts, of keys that are there, that never were, and that were evicted.
func TestAsked(t *testing.T) {
	s, out := Admit(state(2, 0, greatest), 5)
	same(t, "evicted", out, list(greatest))
	same(t, "Keys", Keys(s), list(5, 0))
	if !Has(s, 5) || !Has(s, 0) || Has(s, greatest) || Has(s, 1) || Has(s, 1<<32|5) {
		t.Errorf("Has, of %d", s)
	}
	if Ghosts(s) != 0 {
		t.Errorf("Ghosts: %d", Ghosts(s))
	}
	same(t, "Keys of none", Keys(New(3)), nil)
}

// P8.1 to P8.3: of all small states, and behind each call, all is as the model has it.
func TestAllStates(t *testing.T) {
	for _, s := range triedStates() {
		fits(t, "ahead", s, modelOf(s))
		for _, p := range triedSteps() {
			m := modelOf(s)
			want := p.follow(m)
			got, out := p.do(s)
			fits(t, p.String(), got, m)
			same(t, p.String()+", evicted", out, want)
		}
	}
}

// someStep takes a step by chance, of so many keys.
func someStep(r *rand.Rand, keys int) step {
	k := uint64(r.IntN(keys))
	if k == 3 {
		k = greatest
	}
	switch n := r.IntN(20); {
	case n < 7:
		return step{kind: touch, k: k}
	case n < 15:
		return step{kind: admit, k: k}
	case n < 18:
		return step{kind: drop, k: k}
	}
	return step{kind: resize, c: r.IntN(keys+2) - 1}
}

// P8.1 to P8.4: long scripts, step by step as the model; never more keys than the capacity, and none twice.
func TestScripts(t *testing.T) {
	for seed := range uint64(60) {
		r := rand.New(rand.NewPCG(seed, 8))
		keys := 4 + r.IntN(20)
		c := r.IntN(keys)
		s, m := New(c), newModel(c)
		for range 400 {
			p := someStep(r, keys)
			want := p.follow(m)
			var out []uint64
			s, out = p.do(s)
			fits(t, p.String(), s, m)
			same(t, p.String()+", evicted", out, want)
		}
	}
}

// use is what a cache does with a key: a hit, or an admission.
func use(s State, k uint64) State {
	if Has(s, k) {
		return Touch(s, k)
	}
	s, _ = Admit(s, k)
	return s
}

// P8.4: of all short sequences of keys, a cache of less capacity has just the first keys of one of more.
func TestLessHasTheFirstKeys(t *testing.T) {
	const most = 6
	var walk func(caches []State, steps int)
	walk = func(caches []State, steps int) {
		full := caches[len(caches)-1].L
		for _, s := range caches {
			same(t, "less capacity", s.L, full[:min(s.C, len(full))])
		}
		if steps == 0 || t.Failed() {
			return
		}
		for _, k := range list(0, 1, 2, 3, greatest) {
			var next []State
			for _, s := range caches {
				next = append(next, use(s, k))
			}
			walk(next, steps-1)
		}
	}
	var caches []State
	for c := 1; c <= most; c++ {
		caches = append(caches, New(c))
	}
	walk(caches, most)
}

// roomy is a state whose list has marks behind its last key, as whoever hands one in may have others in that room.
func roomy(s State) State {
	s.L = append(slices.Clone(s.L), mark, mark, mark)[:len(s.L)]
	return s
}

// spoil writes a list all over, and the room behind its last key.
func spoil(l []uint64) {
	l = l[:cap(l)]
	for i := range l {
		l[i] = mark
	}
}

// tellings are all calls that tell lists, with the lists that they tell.
func tellings() map[string]func(s State) [][]uint64 {
	all := map[string]func(s State) [][]uint64{
		"Keys": func(s State) [][]uint64 { return [][]uint64{Keys(s)} },
	}
	for _, p := range triedSteps() {
		all[p.String()] = func(s State) [][]uint64 {
			next, out := p.do(s)
			return [][]uint64{next.L, out}
		}
	}
	return all
}

// clonedAll are copies of lists.
func clonedAll(lists [][]uint64) [][]uint64 {
	var c [][]uint64
	for _, l := range lists {
		c = append(c, slices.Clone(l))
	}
	return c
}

// R3: no call writes into a list that was handed in, or into the room behind it; a call tells the same once more.
func TestHandedInStays(t *testing.T) {
	for _, s := range triedStates() {
		in := roomy(s)
		whole := slices.Clone(in.L[:cap(in.L)])
		for name, call := range tellings() {
			first := clonedAll(call(in))
			same(t, name, in.L[:cap(in.L)], whole)
			for i, l := range call(in) {
				same(t, name+", once more", l, first[i])
			}
		}
		Has(in, 1)
		Ghosts(in)
		same(t, "Has and Ghosts", in.L[:cap(in.L)], whole)
	}
}

// R3: what is told shares nothing with what was handed in, and no two lists that are told share anything.
func TestNothingShared(t *testing.T) {
	for _, s := range triedStates() {
		for name, call := range tellings() {
			in := roomy(s)
			told := call(in)
			want := clonedAll(told)
			spoil(in.L)
			for i := range told {
				same(t, name+", behind a write into what was handed in", told[i], want[i])
			}
			in = roomy(s)
			whole := slices.Clone(in.L[:cap(in.L)])
			told = call(in)
			for i := range told {
				spoil(told[i])
				same(t, name+", handed in, behind a write into what was told", in.L[:cap(in.L)], whole)
				for j := i + 1; j < len(told); j++ {
					same(t, name+", the other list", told[j], want[j])
				}
			}
		}
	}
}

// R3, R4: of a long script no state, and no list, that was told changes by what comes behind it.
func TestToldStays(t *testing.T) {
	r := rand.New(rand.NewPCG(3, 8))
	var told, want [][]uint64
	keep := func(lists ...[]uint64) {
		told = append(told, lists...)
		want = append(want, clonedAll(lists)...)
	}
	s := New(5)
	for range 600 {
		for range 3 { // of one state more than one other goes on
			next, out := someStep(r, 9).do(s)
			keep(next.L, out, Keys(next))
		}
		s, _ = someStep(r, 9).do(s)
		keep(s.L)
	}
	for i := range told {
		same(t, "told before", told[i], want[i])
	}
}

// R2: nil and empty are the same.
func TestNilIsEmpty(t *testing.T) {
	for name, call := range tellings() {
		of, other := call(State{C: 2}), call(State{C: 2, L: list()})
		for i := range of {
			same(t, name, of[i], other[i])
		}
	}
}

// P1, P8.2, P8.4: with as many keys as there may be, each call ends soon.
func TestGreatestCapacity(t *testing.T) {
	const most = api.MaxCapacity
	full := State{C: New(math.MaxInt).C, L: run(most)}
	if !Has(full, most) || Has(full, most+1) || !slices.Equal(Keys(full), full.L) {
		t.Error("Has, or Keys")
	}
	s, out := Admit(full, most+1)
	same(t, "Admit, evicted", out, list(most))
	if len(s.L) != most || s.L[0] != most+1 || s.L[1] != 1 || s.L[most-1] != most-1 {
		t.Error("Admit")
	}
	if s = Touch(full, most); len(s.L) != most || s.L[0] != most || s.L[most-1] != most-1 {
		t.Error("Touch")
	}
	s, out = Resize(full, math.MaxInt)
	if s.C != most || len(s.L) != most || len(out) != 0 {
		t.Error("Resize above the greatest one")
	}
	s, out = Resize(full, 0)
	slices.Reverse(out)
	sameState(t, "Resize below 1", s, State{1, list(1)})
	if !slices.Equal(out, full.L[1:]) {
		t.Error("Resize below 1, evicted")
	}
	if s = Drop(full, 1); len(s.L) != most-1 || s.L[0] != 2 || s.C != most {
		t.Error("Drop")
	}
}

// The document's example: 1, 2, 1 again, 3, of capacity 2.
func TestExample(t *testing.T) {
	s, _ := Admit(New(2), 1)
	s, _ = Admit(s, 2)
	s, out := Admit(Touch(s, 1), 3)
	same(t, "evicted", out, list(2))
	sameState(t, "behind it", s, State{2, list(3, 1)})
}
