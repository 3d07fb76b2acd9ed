package arc

import (
	"fmt"
	"math"
	"math/rand/v2"
	"slices"
	"strconv"
	"testing"
)

// The lists of a model.
const (
	t1 = iota
	t2
	b1
	b2
)

// place is where a model has a key, and when it was put to the front there.
type place struct{ list, at int }

// model is the policy told plainly, key by key, without a list: each key has a place.
type model struct {
	c, p, now int
	places    map[uint64]place
}

func newModel(c int) *model {
	return &model{c: inBounds(c), places: map[uint64]place{}}
}

func inBounds(c int) int {
	if c < 1 {
		return 1
	}
	if c > 1048576 {
		return 1048576
	}
	return c
}

// modelOf has a state's capacity, target and keys.
func modelOf(s State) *model {
	m := newModel(s.C)
	m.p = s.P
	for list, l := range listsOf(s) {
		for _, k := range slices.Backward(l) {
			m.put(list, k)
		}
	}
	return m
}

func (m *model) put(list int, k uint64) {
	m.now++
	m.places[k] = place{list, m.now}
}

// keys are those of a list, the one put last first.
func (m *model) keys(list int) []uint64 {
	var l []uint64
	for k, p := range m.places {
		if p.list == list {
			l = append(l, k)
		}
	}
	slices.SortFunc(l, func(a, b uint64) int { return m.places[b].at - m.places[a].at })
	return l
}

// state is the model's, its lists written out.
func (m *model) state() State {
	return State{m.c, m.p, m.keys(t1), m.keys(t2), m.keys(b1), m.keys(b2)}
}

func (m *model) count(lists ...int) int {
	n := 0
	for _, p := range m.places {
		if slices.Contains(lists, p.list) {
			n++
		}
	}
	return n
}

func (m *model) last(list int) uint64 {
	l := m.keys(list)
	return l[len(l)-1]
}

func (m *model) isIn(list int, k uint64) bool {
	p, ok := m.places[k]
	return ok && p.list == list
}

func (m *model) has(k uint64) bool { return m.isIn(t1, k) || m.isIn(t2, k) }

// forget takes the last one out of a list.
func (m *model) forget(list int) { delete(m.places, m.last(list)) }

// evict puts the last key of a list to the front of another one, and tells it.
func (m *model) evict(from, to int) []uint64 {
	k := m.last(from)
	m.put(to, k)
	return []uint64{k}
}

func (m *model) replace(again bool) []uint64 {
	if m.count(t1, t2) < m.c {
		return nil
	}
	n := m.count(t1)
	if m.count(t2) == 0 || n != 0 && (n > m.p || n == m.p && again) {
		return m.evict(t1, b1)
	}
	return m.evict(t2, b2)
}

func (m *model) touch(k uint64) {
	if m.has(k) {
		m.put(t2, k)
	}
}

func (m *model) admit(k uint64) []uint64 {
	if m.has(k) {
		return nil
	}
	inB1, inB2 := m.isIn(b1, k), m.isIn(b2, k)
	if !inB1 && !inB2 {
		evicted := m.makeRoom()
		m.put(t1, k)
		return evicted
	}
	n1, n2 := m.count(b1), m.count(b2)
	delete(m.places, k)
	if inB1 {
		m.p += max(n2/n1, 1)
	} else {
		m.p -= max(n1/n2, 1)
	}
	m.p = max(min(m.p, m.c), 0)
	evicted := m.replace(inB2)
	m.put(t2, k)
	return evicted
}

// makeRoom makes it for a key that is nowhere.
func (m *model) makeRoom() []uint64 {
	if m.count(t1, b1) >= m.c {
		if m.count(t1) < m.c {
			m.forget(b1)
			return m.replace(false)
		}
		k := m.last(t1)
		m.forget(t1)
		return []uint64{k}
	}
	if m.count(t1, t2, b1, b2) < m.c {
		return nil
	}
	if m.count(t1, t2, b1, b2) >= 2*m.c && m.count(b2) > 0 {
		m.forget(b2)
	}
	return m.replace(false)
}

func (m *model) resize(c int) []uint64 {
	m.c = inBounds(c)
	m.p = min(m.p, m.c)
	var evicted []uint64
	for m.count(t1, t2) > m.c {
		if m.count(t1) > m.p || m.count(t2) == 0 {
			evicted = append(evicted, m.evict(t1, b1)...)
		} else {
			evicted = append(evicted, m.evict(t2, b2)...)
		}
	}
	for m.count(t1, b1) > m.c {
		m.forget(b1)
	}
	for m.count(b1, b2) > m.c {
		if m.count(b2) > 0 {
			m.forget(b2)
		} else {
			m.forget(b1)
		}
	}
	return evicted
}

// kind is one of the calls that change a state.
type kind int

const (
	touch kind = iota
	admit
	drop
	resize
)

// step is such a call, with its key, or its capacity.
type step struct {
	kind kind
	k    uint64
	c    int
}

func (p step) String() string {
	switch p.kind {
	case touch:
		return "Touch " + strconv.FormatUint(p.k, 10)
	case admit:
		return "Admit " + strconv.FormatUint(p.k, 10)
	case drop:
		return "Drop " + strconv.FormatUint(p.k, 10)
	}
	return "Resize " + strconv.Itoa(p.c)
}

// do takes a step from a state.
func (p step) do(s State) (State, []uint64) {
	switch p.kind {
	case touch:
		return Touch(s, p.k), nil
	case admit:
		return Admit(s, p.k)
	case drop:
		return Drop(s, p.k), nil
	}
	return Resize(s, p.c)
}

// follow takes it in the model.
func (p step) follow(m *model) []uint64 {
	switch p.kind {
	case touch:
		m.touch(p.k)
	case admit:
		return m.admit(p.k)
	case drop:
		delete(m.places, p.k)
	case resize:
		return m.resize(p.c)
	}
	return nil
}

// stepsOf are all calls that change a state, with each of its keys, one that is nowhere, and capacities of all sorts.
func stepsOf(s State) []step {
	var all []step
	for _, k := range append(slices.Concat(listsOf(s)...), 1<<33) {
		all = append(all, step{kind: touch, k: k}, step{kind: admit, k: k}, step{kind: drop, k: k})
	}
	for c := range s.C + 3 {
		all = append(all, step{kind: resize, c: c})
	}
	for _, c := range []int{math.MinInt, -1, 1048576, 1048577, math.MaxInt} {
		all = append(all, step{kind: resize, c: c})
	}
	return all
}

// shaped is the state of a capacity and a target with so many keys in its lists. Which ones they are goes on with n, so that 0 and the greatest key come to stand everywhere.
func shaped(n, c, p int, counts [4]int) State {
	keys := list(0, 1, 1<<32, greatest, 2, 1<<32|1, 3, 4, 5, 6, 7, 8)
	s := State{C: c, P: p}
	for i, l := range []*[]uint64{&s.T1, &s.T2, &s.B1, &s.B2} {
		for range counts[i] {
			*l = append(*l, keys[n%len(keys)])
			n++
		}
	}
	return s
}

// shapes are all states of a capacity that there may be, but for the names of their keys.
func shapes(c int) []State {
	var all []State
	for n1 := range c + 1 {
		for n2 := range c + 1 - n1 {
			for m1 := range c + 1 - n1 {
				for m2 := range c + 1 - m1 {
					for p := range c + 1 {
						all = append(all, shaped(len(all), c, p, [4]int{n1, n2, m1, m2}))
					}
				}
			}
		}
	}
	return all
}

// inItsBounds asks for what follows of every state: P11.5; and that no more is remembered than the capacity.
func inItsBounds(t *testing.T, what string, s State) {
	t.Helper()
	n1, n2, m1, m2 := len(s.T1), len(s.T2), len(s.B1), len(s.B2)
	if n1+n2 > s.C || n1+m1 > s.C || n1+n2+m1+m2 > 2*s.C || m1+m2 > s.C {
		t.Errorf("%s: too many keys: %d", what, s)
	}
	if s.P < 0 || s.P > s.C {
		t.Errorf("%s: P: %d", what, s)
	}
	all := slices.Concat(listsOf(s)...)
	slices.Sort(all)
	if len(slices.Compact(slices.Clone(all))) != len(all) {
		t.Errorf("%s: a key is twice: %d", what, s)
	}
}

// fits holds a state, and all that is asked of it, against the model.
func fits(t *testing.T, what string, s State, m *model) {
	t.Helper()
	want := m.state()
	sameState(t, what, s, want)
	inItsBounds(t, what, s)
	same(t, what+", Keys", Keys(s), slices.Concat(want.T1, want.T2))
	if g := Ghosts(s); g != len(want.B1)+len(want.B2) {
		t.Errorf("%s, Ghosts: %d, not %d", what, g, len(want.B1)+len(want.B2))
	}
	for _, k := range append(slices.Concat(listsOf(want)...), 0, greatest, 1<<33) {
		if Has(s, k) != m.has(k) {
			t.Errorf("%s, Has %d: %t", what, k, Has(s, k))
		}
	}
}

// P11.1 to P11.5: of all small states, and behind each call, all is as the model has it. What a call leads to is one of the shapes again, so that there are no others.
func TestAllStates(t *testing.T) {
	for c := 1; c <= 5; c++ {
		for _, s := range shapes(c) {
			fits(t, "ahead", s, modelOf(s))
			for _, p := range stepsOf(s) {
				m := modelOf(s)
				want := p.follow(m)
				got, evicted := p.do(s)
				fits(t, fmt.Sprintf("%s of %d", p, s), got, m)
				same(t, fmt.Sprintf("%s of %d, evicted", p, s), evicted, want)
			}
			if t.Failed() {
				return
			}
		}
	}
}

// someStep takes a step by chance, of so many keys.
func someStep(r *rand.Rand, keys int) step {
	k := uint64(r.IntN(keys))
	if k == 3 {
		k = greatest
	}
	switch n := r.IntN(40); {
	case n < 10:
		return step{kind: touch, k: k}
	case n < 37:
		return step{kind: admit, k: k}
	case n < 39:
		return step{kind: drop, k: k}
	}
	return step{kind: resize, c: r.IntN(keys+2) - 1}
}

// P11.1 to P11.5: long scripts, step by step as the model, of greater capacities, where the target goes farther at once.
func TestScripts(t *testing.T) {
	for seed := range uint64(60) {
		r := rand.New(rand.NewPCG(seed, 11))
		keys := 4 + r.IntN(40)
		c := r.IntN(keys)
		s, m := New(c), newModel(c)
		for range 400 {
			p := someStep(r, keys)
			want := p.follow(m)
			var evicted []uint64
			s, evicted = p.do(s)
			fits(t, p.String(), s, m)
			same(t, p.String()+", evicted", evicted, want)
		}
	}
}

// P11.5, P6: whatever is called of whatever keys, there are no more than there may be, and a Resize evicts just as many as are too many.
func TestBounds(t *testing.T) {
	for seed := range uint64(20) {
		r := rand.New(rand.NewPCG(seed, 115))
		s := New(1 + r.IntN(200))
		for range 2000 {
			p := someStep(r, 300)
			ahead := len(Keys(s))
			next, evicted := p.do(s)
			inItsBounds(t, p.String(), next)
			if p.kind == resize && len(evicted) != max(ahead-next.C, 0) {
				t.Errorf("%s of %d keys: %d were evicted", p, ahead, len(evicted))
			}
			s = next
		}
	}
}
