package twoq

import (
	"fmt"
	"math"
	"math/rand/v2"
	"slices"
	"strconv"
	"testing"

	"hopper/api"
)

const greatest = math.MaxUint64

// mark is what a test writes over lists: no list of a test has it as a key, nor one of those above it.
const mark = 0xdead0000

// list writes a list of keys shortly.
func list(keys ...uint64) []uint64 { return keys }

// run is a list of the keys from one on to another one, with both.
func run(from, to uint64) []uint64 {
	l := make([]uint64, to-from+1)
	for i := range l {
		l[i] = from + uint64(i)
	}
	return l
}

// admitted has a list's keys admitted, so that its first one comes last.
func admitted(s State, l []uint64) State {
	for _, k := range slices.Backward(l) {
		s, _ = Admit(s, k)
	}
	return s
}

// state is the one of a capacity with just these lists, by calls: keys that are to be remembered, or to come again, are evicted by others, which are dropped then.
func state(c int, in, out, main []uint64) State {
	n := len(in) + len(out) + len(main) + 1
	s := admitted(New(4*n), slices.Concat(out, main))
	others := run(mark+1, mark+2*uint64(n))
	s, _ = Resize(admitted(s, others), 2*n)
	for _, k := range others {
		s = Drop(s, k)
	}
	s, _ = Resize(admitted(admitted(s, main), in), c)
	return s
}

// The lists of a model.
const (
	in = iota
	out
	main
)

// place is where a model has a key, and when it was put to the front there.
type place struct{ list, at int }

// model is the policy told plainly, key by key, without a list: each key has a place.
type model struct {
	c, now int
	places map[uint64]place
}

func newModel(c int) *model {
	return &model{c: inBounds(c), places: map[uint64]place{}}
}

func inBounds(c int) int {
	if c < 1 {
		return 1
	}
	if c > 1048576 {
		return 1048576
	}
	return c
}

func (m *model) put(list int, k uint64) {
	m.now++
	m.places[k] = place{list, m.now}
}

// keys are those of a list, the one put last first.
func (m *model) keys(list int) []uint64 {
	var l []uint64
	for k, p := range m.places {
		if p.list == list {
			l = append(l, k)
		}
	}
	slices.SortFunc(l, func(a, b uint64) int { return m.places[b].at - m.places[a].at })
	return l
}

func (m *model) count(list int) int { return len(m.keys(list)) }

func (m *model) last(list int) uint64 {
	l := m.keys(list)
	return l[len(l)-1]
}

func (m *model) isIn(list int, k uint64) bool {
	p, ok := m.places[k]
	return ok && p.list == list
}

func (m *model) has(k uint64) bool { return m.isIn(in, k) || m.isIn(main, k) }

// fall takes what is too much off the back of Out.
func (m *model) fall() {
	for m.count(out) > m.c/2 {
		delete(m.places, m.last(out))
	}
}

// reclaim evicts one key.
func (m *model) reclaim() uint64 {
	kin := m.c / 4
	if kin < 1 {
		kin = 1
	}
	if m.count(in) > kin || m.count(main) == 0 {
		k := m.last(in)
		m.put(out, k)
		m.fall()
		return k
	}
	k := m.last(main)
	delete(m.places, k)
	return k
}

func (m *model) evict(most int) []uint64 {
	var evicted []uint64
	for m.count(in)+m.count(main) > most {
		evicted = append(evicted, m.reclaim())
	}
	return evicted
}

func (m *model) admit(k uint64) []uint64 {
	if m.has(k) {
		return nil
	}
	list := in
	if m.isIn(out, k) {
		list = main
		delete(m.places, k)
	}
	evicted := m.evict(m.c - 1)
	m.put(list, k)
	return evicted
}

// state is the model's, its lists written out.
func (m *model) state() State {
	return State{C: m.c, In: m.keys(in), Out: m.keys(out), Main: m.keys(main)}
}

// modelOf has a state's capacity and keys.
func modelOf(s State) *model {
	m := newModel(s.C)
	for list, l := range [][]uint64{in: s.In, out: s.Out, main: s.Main} {
		for _, k := range slices.Backward(l) {
			m.put(list, k)
		}
	}
	return m
}

// kind is one of the calls that change a state.
type kind int

const (
	touch kind = iota
	admit
	drop
	resize
)

// step is such a call, with its key, or its capacity.
type step struct {
	kind kind
	k    uint64
	c    int
}

func (p step) String() string {
	switch p.kind {
	case touch:
		return "Touch " + strconv.FormatUint(p.k, 10)
	case admit:
		return "Admit " + strconv.FormatUint(p.k, 10)
	case drop:
		return "Drop " + strconv.FormatUint(p.k, 10)
	}
	return "Resize " + strconv.Itoa(p.c)
}

// do takes a step from a state.
func (p step) do(s State) (State, []uint64) {
	switch p.kind {
	case touch:
		return Touch(s, p.k), nil
	case admit:
		return Admit(s, p.k)
	case drop:
		return Drop(s, p.k), nil
	}
	return Resize(s, p.c)
}

// follow takes it in the model.
func (p step) follow(m *model) []uint64 {
	switch p.kind {
	case touch:
		if m.isIn(main, p.k) {
			m.put(main, p.k)
		}
	case admit:
		return m.admit(p.k)
	case drop:
		delete(m.places, p.k)
	case resize:
		m.c = inBounds(p.c)
		evicted := m.evict(m.c)
		m.fall()
		return evicted
	}
	return nil
}

// triedKeys are those that steps are tried with: some of them are there, some aren't, and 9 never is.
func triedKeys() []uint64 { return list(0, 1, 2, 1<<32, greatest, 9) }

// triedSteps are all calls that change a state, with some keys and capacities.
func triedSteps(keys []uint64, capacities ...int) []step {
	var all []step
	for _, k := range keys {
		all = append(all, step{kind: touch, k: k}, step{kind: admit, k: k}, step{kind: drop, k: k})
	}
	for _, c := range capacities {
		all = append(all, step{kind: resize, c: c})
	}
	return all
}

// allSteps are those with all keys that are tried, and capacities of all sorts.
func allSteps() []step {
	return triedSteps(triedKeys(), math.MinInt, -1, 0, 1, 2, 3, 4, 5, 6, 1048576, 1048577, math.MaxInt)
}

// triedStates are all states of capacities from 1 on to another one that come of calls with keys that are tried, but for 9: they are gone through in the model, from step to step.
func triedStates(most int) []State {
	all := []State{newModel(most).state()}
	seen := map[string]bool{fmt.Sprint(all[0]): true}
	var capacities []int
	for c := range most {
		capacities = append(capacities, c+1)
	}
	for i := 0; i < len(all); i++ {
		for _, p := range triedSteps(triedKeys()[:5], capacities...) {
			m := modelOf(all[i])
			p.follow(m)
			s := m.state()
			if text := fmt.Sprint(s); !seen[text] {
				seen[text] = true
				all = append(all, s)
			}
		}
	}
	return all
}

func same(t *testing.T, what string, got, want []uint64) {
	t.Helper()
	if !slices.Equal(got, want) {
		t.Errorf("%s: %d, not %d", what, got, want)
	}
}

// sameState holds a state against another one.
func sameState(t *testing.T, what string, got, want State) {
	t.Helper()
	if got.C != want.C || !slices.Equal(got.In, want.In) || !slices.Equal(got.Out, want.Out) || !slices.Equal(got.Main, want.Main) {
		t.Errorf("%s: %d, not %d", what, got, want)
	}
}

// inItsBounds asks for what follows of every state: P9.4.
func inItsBounds(t *testing.T, what string, s State) {
	t.Helper()
	if len(s.In)+len(s.Main) > s.C || 2*len(s.Out) > s.C {
		t.Errorf("%s: too many keys: %d", what, s)
	}
	all := slices.Concat(s.In, s.Out, s.Main)
	slices.Sort(all)
	if len(slices.Compact(slices.Clone(all))) != len(all) {
		t.Errorf("%s: a key is twice: %d", what, s)
	}
}

// fits holds a state, and all that is asked of it, against the model.
func fits(t *testing.T, what string, s State, m *model) {
	t.Helper()
	want := m.state()
	sameState(t, what, s, want)
	inItsBounds(t, what, s)
	same(t, what+", Keys", Keys(s), slices.Concat(want.In, want.Main))
	if g := Ghosts(s); g != len(want.Out) {
		t.Errorf("%s, Ghosts: %d, not %d", what, g, len(want.Out))
	}
	for _, k := range triedKeys() {
		if Has(s, k) != m.has(k) {
			t.Errorf("%s, Has %d: %t", what, k, Has(s, k))
		}
	}
}

// What state builds is what was asked for, so that the tests below begin where they say.
func TestStates(t *testing.T) {
	for _, s := range []State{
		{C: 1}, {C: 1, In: list(0)}, {C: 1, Main: list(greatest)},
		{4, list(0), list(2, 1), list(5, 4, 3)}, {8, run(1, 5), run(6, 9), run(10, 12)}, {1048576, run(1, 3), run(4, 6), run(7, 9)},
	} {
		sameState(t, "state", state(s.C, s.In, s.Out, s.Main), s)
	}
}

// P9.1: New, of capacities below 1, from 1 on, the greatest one, and above it.
func TestNew(t *testing.T) {
	for _, c := range []struct{ c, want int }{
		{math.MinInt, 1}, {-1, 1}, {0, 1}, {1, 1}, {2, 2}, {3, 3}, {4, 4}, {7, 7},
		{1048575, 1048575}, {1048576, 1048576}, {1048577, 1048576}, {math.MaxInt, 1048576},
	} {
		s := New(c.c)
		sameState(t, "New", s, State{C: c.want})
		if len(Keys(s)) > 0 || Ghosts(s) != 0 || Has(s, 0) || Has(s, greatest) {
			t.Errorf("%d: %d", c.c, s)
		}
	}
}

// P9.1: Touch of a key in Main, at the front, in the middle and at the back, of one in In, of one that is remembered, and of one that is nowhere.
func TestTouch(t *testing.T) {
	full := state(8, list(1, 2, 3), list(4, 5, 6), list(7, 0, greatest))
	for _, c := range []struct {
		s    State
		k    uint64
		want []uint64
	}{
		{full, 7, list(7, 0, greatest)},
		{full, 0, list(0, 7, greatest)},
		{full, greatest, list(greatest, 7, 0)},
		{full, 1, list(7, 0, greatest)},
		{full, 2, list(7, 0, greatest)},
		{full, 3, list(7, 0, greatest)},
		{full, 4, list(7, 0, greatest)},
		{full, 6, list(7, 0, greatest)},
		{full, 8, list(7, 0, greatest)},
		{full, 1<<32 | 7, list(7, 0, greatest)},
		{New(2), 0, nil},
		{New(2), greatest, nil},
		{state(1, list(0), nil, nil), 0, nil},
		{state(1, nil, nil, list(0)), 0, list(0)},
		{state(1, nil, nil, list(greatest)), 0, list(greatest)},
		{state(2, list(1), list(0), nil), 0, nil},
	} {
		want := c.s
		want.Main = c.want
		sameState(t, "Touch", Touch(c.s, c.k), want)
	}
}

// P9.2: Admit of a key that is there, in In or in Main, where it stays in its place: full or not, nothing is evicted.
func TestAdmitOfAKey(t *testing.T) {
	for _, s := range []State{
		state(9, list(1, 2, 0), list(4, 5), list(7, 8, greatest)),
		state(6, list(1, 2, 0), list(4, 5), list(7, 8, greatest)),
	} {
		for _, k := range Keys(s) {
			got, evicted := Admit(s, k)
			sameState(t, "Admit", got, s)
			same(t, "Admit, evicted", evicted, nil)
		}
	}
}

// P9.2: Admit of a key that is nowhere, with room and without.
func TestAdmitOfANewKey(t *testing.T) {
	for _, c := range []struct {
		s       State
		k       uint64
		want    State
		evicted []uint64
	}{
		{New(1), 0, State{1, list(0), nil, nil}, nil},
		{New(-5), greatest, State{1, list(greatest), nil, nil}, nil},
		{state(1048577, list(1), nil, nil), 0, State{1048576, list(0, 1), nil, nil}, nil},
		{state(4, list(1), list(2, 3), list(4, 5)), 6, State{4, list(6, 1), list(2, 3), list(4, 5)}, nil},
		// Main has none: nothing is remembered of capacity 1, one key of 2 and 3.
		{state(1, list(0), nil, nil), 1, State{1, list(1), nil, nil}, list(0)},
		{state(2, list(0, greatest), nil, nil), 1, State{2, list(1, 0), list(greatest), nil}, list(greatest)},
		{state(2, list(1, 2), list(3), nil), 4, State{2, list(4, 1), list(2), nil}, list(2)},
		{state(3, list(1, 2, 3), list(4), nil), 5, State{3, list(5, 1, 2), list(3), nil}, list(3)},
		{state(4, list(1, 2, 3, 4), list(5), nil), 6, State{4, list(6, 1, 2, 3), list(4, 5), nil}, list(4)},
		{state(4, list(1, 2, 3, 4), list(5, 7), nil), 6, State{4, list(6, 1, 2, 3), list(4, 5), nil}, list(4)},
		// In has more than kin keys: kin is 1 up to 7, and 2 from 8 on.
		{state(4, list(1, 2), list(5, 7), list(8, 9)), 6, State{4, list(6, 1), list(2, 5), list(8, 9)}, list(2)},
		{state(7, list(1, 2), nil, run(11, 15)), 6, State{7, list(6, 1), list(2), run(11, 15)}, list(2)},
		{state(8, list(1, 2, 3), list(7), run(11, 15)), 6, State{8, list(6, 1, 2), list(3, 7), run(11, 15)}, list(3)},
		// In hasn't.
		{state(1, nil, nil, list(1)), 2, State{1, list(2), nil, nil}, list(1)},
		{state(2, list(1), list(5), list(2)), 6, State{2, list(6, 1), list(5), nil}, list(2)},
		{state(3, nil, list(5), list(1, 2, 3)), 6, State{3, list(6), list(5), list(1, 2)}, list(3)},
		{state(4, list(1), list(5, 7), list(8, 9, 0)), 6, State{4, list(6, 1), list(5, 7), list(8, 9)}, list(0)},
		{state(8, list(1, 2), nil, run(11, 16)), 6, State{8, list(6, 1, 2), nil, run(11, 15)}, list(16)},
		{state(11, list(1, 2), nil, run(11, 19)), 6, State{11, list(6, 1, 2), nil, run(11, 18)}, list(19)},
	} {
		got, evicted := Admit(c.s, c.k)
		sameState(t, fmt.Sprintf("Admit %d to %d", c.k, c.s), got, c.want)
		same(t, "Admit, evicted", evicted, c.evicted)
	}
}

// P9.2: Admit of a key that is remembered, with room and without: it is forgotten ahead of what is evicted for it, which so finds a place in Out.
func TestAdmitOfAGhost(t *testing.T) {
	for _, c := range []struct {
		s       State
		k       uint64
		want    State
		evicted []uint64
	}{
		{state(2, nil, list(0), nil), 0, State{2, nil, nil, list(0)}, nil},
		{state(6, list(1, 2), list(3, greatest, 4), list(5)), greatest, State{6, list(1, 2), list(3, 4), list(greatest, 5)}, nil},
		{state(2, list(1, 2), list(3), nil), 3, State{2, list(1), list(2), list(3)}, list(2)},
		{state(2, nil, list(3), list(4, 5)), 3, State{2, nil, nil, list(3, 4)}, list(5)},
		{state(4, list(1, 2), list(5, 6), list(3, 4)), 5, State{4, list(1), list(2, 6), list(5, 3, 4)}, list(2)},
		{state(4, list(1, 2), list(5, 6), list(3, 4)), 6, State{4, list(1), list(2, 5), list(6, 3, 4)}, list(2)},
		{state(4, list(1), list(5, 6), list(2, 3, 4)), 5, State{4, list(1), list(6), list(5, 2, 3)}, list(4)},
		{state(4, run(1, 4), list(0), nil), 0, State{4, run(1, 3), list(4), list(0)}, list(4)},
	} {
		got, evicted := Admit(c.s, c.k)
		sameState(t, fmt.Sprintf("Admit %d to %d", c.k, c.s), got, c.want)
		same(t, "Admit, evicted", evicted, c.evicted)
	}
}

// P9.2: keys fall off the back of Out above kout, the one that was evicted first as the first one; what fell counts as new.
func TestOutFalls(t *testing.T) {
	for _, c := range []struct {
		c    int
		want []uint64
	}{
		{1, nil}, {2, list(7)}, {3, list(6)}, {4, list(5, 4)}, {5, list(4, 3)}, {6, list(3, 2, 1)}, {7, list(2, 1)}, {8, list(1)}, {9, nil},
	} {
		s := New(c.c)
		for k := range uint64(9) {
			s, _ = Admit(s, k+1)
		}
		same(t, "Out", s.Out, c.want)
		if Ghosts(s) != len(c.want) {
			t.Errorf("capacity %d, Ghosts: %d", c.c, Ghosts(s))
		}
	}
	s, _ := Admit(state(4, run(1, 4), list(5, 6), nil), 7)
	s, evicted := Admit(s, 6)
	sameState(t, "Admit of what fell", s, State{4, list(6, 7, 1, 2), list(3, 4), nil})
	same(t, "Admit of what fell, evicted", evicted, list(3))
}

// P9.1: Drop of a key of each list, and of one that is in none; what is dropped isn't remembered, and makes room.
func TestDrop(t *testing.T) {
	s := state(6, list(0, 1, 2), list(3, 4, 5), list(6, 7, greatest))
	for _, c := range []struct {
		k    uint64
		want State
	}{
		{0, State{6, list(1, 2), s.Out, s.Main}},
		{1, State{6, list(0, 2), s.Out, s.Main}},
		{2, State{6, list(0, 1), s.Out, s.Main}},
		{3, State{6, s.In, list(4, 5), s.Main}},
		{4, State{6, s.In, list(3, 5), s.Main}},
		{5, State{6, s.In, list(3, 4), s.Main}},
		{6, State{6, s.In, s.Out, list(7, greatest)}},
		{7, State{6, s.In, s.Out, list(6, greatest)}},
		{greatest, State{6, s.In, s.Out, list(6, 7)}},
		{8, s},
		{1<<32 | 1, s},
	} {
		got := Drop(s, c.k)
		sameState(t, "Drop", got, c.want)
		if Has(got, c.k) {
			t.Errorf("Has %d behind a Drop", c.k)
		}
	}
	sameState(t, "Drop of none", Drop(New(1), 0), State{C: 1})
	got, evicted := Admit(Drop(s, 7), 8)
	sameState(t, "Admit behind a Drop", got, State{6, list(8, 0, 1, 2), s.Out, list(6, greatest)})
	same(t, "Admit behind a Drop, evicted", evicted, nil)
	got, evicted = Admit(Drop(s, 3), 3)
	sameState(t, "Admit of what was remembered, and dropped", got, State{6, list(3, 0, 1), list(2, 4, 5), s.Main})
	same(t, "Admit of what was remembered, and dropped, evicted", evicted, list(2))
}

// P9.2, P6: Resize to more, to the same, to less, to 1, below 1, and above the greatest one: In is evicted down to the new kin, Main behind it, and what is left of In at last.
func TestResize(t *testing.T) {
	s := state(8, list(1, 2, 3, 4), list(11, 12, 13, 14), list(5, 6, 7, 8))
	onlyIn := state(8, run(1, 8), list(9, 0), nil)
	onlyMain := state(8, nil, list(9, 0, greatest), run(1, 8))
	for _, c := range []struct {
		s       State
		c       int
		want    State
		evicted []uint64
	}{
		{New(3), 5, State{C: 5}, nil},
		{New(3), 0, State{C: 1}, nil},
		{New(3), math.MaxInt, State{C: 1048576}, nil},
		{s, 1048577, State{1048576, s.In, s.Out, s.Main}, nil},
		{s, 1048576, State{1048576, s.In, s.Out, s.Main}, nil},
		{s, 9, State{9, s.In, s.Out, s.Main}, nil},
		{s, 8, s, nil},
		{s, 7, State{7, list(1, 2, 3), list(4, 11, 12), s.Main}, list(4)},
		{s, 6, State{6, list(1, 2), list(3, 4, 11), s.Main}, list(4, 3)},
		{s, 5, State{5, list(1), list(2, 3), s.Main}, list(4, 3, 2)},
		{s, 4, State{4, list(1), list(2, 3), list(5, 6, 7)}, list(4, 3, 2, 8)},
		{s, 3, State{3, list(1), list(2), list(5, 6)}, list(4, 3, 2, 8, 7)},
		{s, 2, State{2, list(1), list(2), list(5)}, list(4, 3, 2, 8, 7, 6)},
		{s, 1, State{1, list(1), nil, nil}, list(4, 3, 2, 8, 7, 6, 5)},
		{s, 0, State{1, list(1), nil, nil}, list(4, 3, 2, 8, 7, 6, 5)},
		{s, math.MinInt, State{1, list(1), nil, nil}, list(4, 3, 2, 8, 7, 6, 5)},
		{onlyIn, 5, State{5, run(1, 5), list(6, 7), nil}, list(8, 7, 6)},
		{onlyIn, 7, State{7, run(1, 7), list(8, 9, 0), nil}, list(8)},
		{onlyIn, 1, State{1, list(1), nil, nil}, list(8, 7, 6, 5, 4, 3, 2)},
		{onlyMain, 5, State{5, nil, list(9, 0), run(1, 5)}, list(8, 7, 6)},
		{onlyMain, 1, State{1, nil, nil, list(1)}, list(8, 7, 6, 5, 4, 3, 2)},
		{state(8, list(1), run(2, 5), list(6)), 4, State{4, list(1), list(2, 3), list(6)}, nil},
		{state(8, nil, run(2, 5), nil), 3, State{3, nil, list(2), nil}, nil},
		{state(8, nil, run(2, 5), nil), -1, State{1, nil, nil, nil}, nil},
		{state(12, run(1, 6), nil, run(7, 12)), 8, State{8, run(1, 2), run(3, 6), run(7, 12)}, list(6, 5, 4, 3)},
		{state(12, run(1, 6), nil, run(7, 12)), 9, State{9, run(1, 3), run(4, 6), run(7, 12)}, list(6, 5, 4)},
		{state(1, list(greatest), nil, nil), 1, State{1, list(greatest), nil, nil}, nil},
	} {
		got, evicted := Resize(c.s, c.c)
		sameState(t, fmt.Sprintf("Resize %d of %d", c.c, c.s), got, c.want)
		same(t, "Resize, evicted", evicted, c.evicted)
	}
	more, _ := Resize(s, 9)
	got, evicted := Admit(more, 0)
	sameState(t, "Admit behind a Resize", got, State{9, list(0, 1, 2, 3, 4), s.Out, s.Main})
	same(t, "Admit behind a Resize, evicted", evicted, nil)
}

// P9.3: Has, Keys and Ghosts: of keys in In and in Main, that are remembered, that fell, and that never were.
func TestAsked(t *testing.T) {
	s := state(6, list(0, 1, 2), list(3, 4, 5), list(6, 7, greatest))
	for _, k := range list(0, 1, 2, 6, 7, greatest) {
		if !Has(s, k) {
			t.Errorf("Has not %d", k)
		}
	}
	for _, k := range list(3, 4, 5, 8, 1<<32, 1<<32|1) {
		if Has(s, k) {
			t.Errorf("Has %d", k)
		}
	}
	same(t, "Keys", Keys(s), list(0, 1, 2, 6, 7, greatest))
	same(t, "Keys of In", Keys(state(6, list(0, 1), list(3), nil)), list(0, 1))
	same(t, "Keys of Main", Keys(state(6, nil, list(3), list(0, 1))), list(0, 1))
	same(t, "Keys of Out", Keys(state(6, nil, list(3), nil)), nil)
	if Ghosts(s) != 3 || Ghosts(New(6)) != 0 || Ghosts(state(6, list(0, 1), list(3), list(2))) != 1 {
		t.Error("Ghosts")
	}
	s, evicted := Admit(s, 8)
	same(t, "evicted", evicted, list(2))
	if Has(s, 2) || Has(s, 5) || !Has(s, 8) || Ghosts(s) != 3 {
		t.Errorf("Has, or Ghosts, of %d", s)
	}
}

// P9.1 to P9.4: of all small states, and behind each call, all is as the model has it.
func TestAllStates(t *testing.T) {
	steps := allSteps()
	for _, s := range triedStates(4) {
		fits(t, "ahead", s, modelOf(s))
		for _, p := range steps {
			m := modelOf(s)
			want := p.follow(m)
			got, evicted := p.do(s)
			fits(t, p.String(), got, m)
			same(t, p.String()+", evicted", evicted, want)
		}
		if t.Failed() {
			return
		}
	}
}

// someStep takes a step by chance, of so many keys.
func someStep(r *rand.Rand, keys int) step {
	k := uint64(r.IntN(keys))
	if k == 3 {
		k = greatest
	}
	switch n := r.IntN(24); {
	case n < 7:
		return step{kind: touch, k: k}
	case n < 21:
		return step{kind: admit, k: k}
	case n < 23:
		return step{kind: drop, k: k}
	}
	return step{kind: resize, c: r.IntN(keys+2) - 1}
}

// P9.1 to P9.4: long scripts, step by step as the model, of capacities where kin and kout are of all sizes up to some.
func TestScripts(t *testing.T) {
	for seed := range uint64(60) {
		r := rand.New(rand.NewPCG(seed, 9))
		keys := 4 + r.IntN(40)
		c := r.IntN(keys)
		s, m := New(c), newModel(c)
		for range 400 {
			p := someStep(r, keys)
			want := p.follow(m)
			var evicted []uint64
			s, evicted = p.do(s)
			fits(t, p.String(), s, m)
			same(t, p.String()+", evicted", evicted, want)
		}
	}
}

// P9.4: whatever is called of whatever keys, there are no more than there may be, and none is in two lists.
func TestBounds(t *testing.T) {
	for seed := range uint64(20) {
		r := rand.New(rand.NewPCG(seed, 94))
		s := New(1 + r.IntN(200))
		for range 2000 {
			p := someStep(r, 300)
			ahead := len(Keys(s))
			next, evicted := p.do(s)
			inItsBounds(t, p.String(), next)
			if p.kind == resize && len(evicted) != max(ahead-next.C, 0) {
				t.Errorf("%s of %d keys: %d were evicted", p, ahead, len(evicted))
			}
			s = next
		}
	}
}

// listsOf are a state's lists.
func listsOf(s State) [][]uint64 { return [][]uint64{s.In, s.Out, s.Main} }

// wholes are copies of a state's lists, with the room behind their last keys.
func wholes(s State) [][]uint64 {
	var all [][]uint64
	for _, l := range listsOf(s) {
		all = append(all, slices.Clone(l[:cap(l)]))
	}
	return all
}

// roomy is a state whose lists have marks behind their last keys, as whoever hands one in may have others in that room.
func roomy(s State) State {
	room := func(l []uint64) []uint64 {
		return append(slices.Clone(l), mark, mark, mark)[:len(l)]
	}
	s.In, s.Out, s.Main = room(s.In), room(s.Out), room(s.Main)
	return s
}

// spoil writes a list all over, and the room behind its last key.
func spoil(l []uint64) {
	l = l[:cap(l)]
	for i := range l {
		l[i] = mark
	}
}

// tellings are all calls that tell lists, with the lists that they tell.
func tellings() map[string]func(s State) [][]uint64 {
	all := map[string]func(s State) [][]uint64{
		"Keys": func(s State) [][]uint64 { return [][]uint64{Keys(s)} },
	}
	for _, p := range allSteps() {
		all[p.String()] = func(s State) [][]uint64 {
			next, evicted := p.do(s)
			return append(listsOf(next), evicted)
		}
	}
	return all
}

// clonedAll are copies of lists.
func clonedAll(lists [][]uint64) [][]uint64 {
	var c [][]uint64
	for _, l := range lists {
		c = append(c, slices.Clone(l))
	}
	return c
}

// sameAll holds lists against others.
func sameAll(t *testing.T, what string, got, want [][]uint64) {
	t.Helper()
	if len(got) != len(want) {
		t.Fatalf("%s: %d lists, not %d", what, len(got), len(want))
	}
	for i := range got {
		same(t, what, got[i], want[i])
	}
}

// R3: no call writes into a list that was handed in, or into the room behind it; a call tells the same once more.
func TestHandedInStays(t *testing.T) {
	calls := tellings()
	for _, s := range triedStates(3) {
		in := roomy(s)
		whole := wholes(in)
		for name, call := range calls {
			first := clonedAll(call(in))
			sameAll(t, name, wholes(in), whole)
			sameAll(t, name+", once more", call(in), first)
		}
		Has(in, 1)
		Ghosts(in)
		sameAll(t, "Has and Ghosts", wholes(in), whole)
	}
}

// R3: what is told shares nothing with what was handed in, and no two lists that are told share anything.
func TestNothingShared(t *testing.T) {
	calls := tellings()
	for _, s := range triedStates(3) {
		for name, call := range calls {
			in := roomy(s)
			told := call(in)
			want := clonedAll(told)
			for _, l := range listsOf(in) {
				spoil(l)
			}
			sameAll(t, name+", behind a write into what was handed in", told, want)
			in = roomy(s)
			whole := wholes(in)
			told = call(in)
			for i := range told {
				spoil(told[i])
				sameAll(t, name+", handed in, behind a write into what was told", wholes(in), whole)
				sameAll(t, name+", the other lists", told[i+1:], want[i+1:])
			}
		}
	}
}

// R3, R4: of a long script no state, and no list, that was told changes by what comes behind it.
func TestToldStays(t *testing.T) {
	r := rand.New(rand.NewPCG(3, 9))
	var told, want [][]uint64
	keep := func(lists ...[]uint64) {
		told = append(told, lists...)
		want = append(want, clonedAll(lists)...)
	}
	s := New(8)
	for range 600 {
		for range 3 { // of one state more than one other goes on
			next, evicted := someStep(r, 20).do(s)
			keep(listsOf(next)...)
			keep(evicted, Keys(next))
		}
		s, _ = someStep(r, 20).do(s)
		keep(listsOf(s)...)
	}
	sameAll(t, "told before", told, want)
}

// R2: nil and empty are the same.
func TestNilIsEmpty(t *testing.T) {
	for name, call := range tellings() {
		sameAll(t, name, call(State{C: 2, In: list(), Out: list(), Main: list()}), call(State{C: 2}))
	}
}

// P1: a call ends, whatever it is given: of a state of a capacity that may not be, too.
func TestOddStatesEnd(t *testing.T) {
	for _, c := range []int{math.MinInt, -1, 0, math.MaxInt} {
		for _, s := range []State{{C: c}, {c, run(1, 5), run(6, 9), run(1, 3)}, {c, nil, run(1, 3), run(1, 3)}} {
			for _, p := range allSteps() {
				next, _ := p.do(s)
				Keys(next)
				Ghosts(next)
			}
		}
	}
}

// P1, P9.2, P9.4: with as many keys as there may be, each call ends soon.
func TestGreatestCapacity(t *testing.T) {
	const most, half = api.MaxCapacity, api.MaxCapacity / 2
	full := State{C: New(math.MaxInt).C, In: run(1, half), Out: run(most+1, most+half), Main: run(half+1, most)}
	if !Has(full, most) || Has(full, most+1) || Ghosts(full) != half || !slices.Equal(Keys(full), run(1, most)) {
		t.Error("Has, Ghosts, or Keys")
	}
	s, evicted := Admit(full, 0)
	same(t, "Admit, evicted", evicted, list(half))
	if !slices.Equal(s.In, run(0, half-1)) || !slices.Equal(s.Out, append(list(half), full.Out[:half-1]...)) || len(s.Main) != half {
		t.Error("Admit")
	}
	s, evicted = Admit(full, most+half)
	same(t, "Admit of what is remembered, evicted", evicted, list(half))
	if len(s.In) != half-1 || s.Main[0] != most+half || len(s.Main) != half+1 || len(s.Out) != half || s.Out[0] != half {
		t.Error("Admit of what is remembered")
	}
	if s = Touch(full, most); s.Main[0] != most || len(s.Main) != half {
		t.Error("Touch")
	}
	if s = Drop(full, half+1); !slices.Equal(s.Main, run(half+2, most)) || len(s.In) != half || len(s.Out) != half {
		t.Error("Drop")
	}
	s, evicted = Resize(full, math.MaxInt)
	sameLong(t, "Resize above the greatest one", s, full)
	same(t, "Resize above the greatest one, evicted", evicted, nil)
	resizesTheGreatest(t, full)
}

// resizesTheGreatest has a full cache evict a half of its keys, and all but one.
func resizesTheGreatest(t *testing.T, full State) {
	const most, half = api.MaxCapacity, api.MaxCapacity / 2
	s, evicted := Resize(full, half)
	sameLong(t, "Resize to a half", s, State{half, run(1, half/4), run(half/4+1, half/4+half/2), run(half+1, most-half/4)})
	want := slices.Concat(run(half/4+1, half), run(most-half/4+1, most))
	slices.Reverse(want[:half-half/4])
	slices.Reverse(want[half-half/4:])
	if !slices.Equal(evicted, want) {
		t.Error("Resize to a half, evicted")
	}
	s, evicted = Resize(full, 0)
	sameLong(t, "Resize below 1", s, State{1, list(1), nil, nil})
	want = run(2, most)
	slices.Reverse(want[:half-1])
	slices.Reverse(want[half-1:])
	if !slices.Equal(evicted, want) {
		t.Error("Resize below 1, evicted")
	}
}

// sameLong is sameState that tells no lists, as they are long.
func sameLong(t *testing.T, what string, got, want State) {
	t.Helper()
	if got.C != want.C || !slices.Equal(got.In, want.In) || !slices.Equal(got.Out, want.Out) || !slices.Equal(got.Main, want.Main) {
		t.Error(what)
	}
}

// The document's example: of capacity 4, 1, 2, 3, 4, 5, and 1 once more.
func TestExample(t *testing.T) {
	s := admitted(New(4), list(4, 3, 2, 1))
	s, evicted := Admit(s, 5)
	same(t, "evicted", evicted, list(1))
	sameState(t, "behind 5", s, State{4, list(5, 4, 3, 2), list(1), nil})
	s, evicted = Admit(s, 1)
	same(t, "evicted", evicted, list(2))
	sameState(t, "behind 1 once more", s, State{4, list(5, 4, 3), list(2), list(1)})
}
