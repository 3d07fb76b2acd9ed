package lirs

import (
	"fmt"
	"math"
	"math/rand/v2"
	"slices"
	"strconv"
	"testing"
)

// place is what a model knows of a key: its kind in S, and when it was put to the front there; and when it was put to the end of Q. A time of 0 is that of one that isn't there.
type place struct{ kind, stacked, queued int }

// model is the policy told plainly, step by step as the words have it, without a list: each key has a place.
type model struct {
	c, now int
	places map[uint64]place
}

func newModel(c int) *model {
	return &model{c: inBounds(c), places: map[uint64]place{}}
}

func inBounds(c int) int {
	if c < 1 {
		return 1
	}
	if c > 1048576 {
		return 1048576
	}
	return c
}

// modelOf has a state's capacity, items and keys.
func modelOf(s State) *model {
	m := newModel(s.C)
	for _, item := range slices.Backward(s.S) {
		m.stack(item.Key, item.Kind)
	}
	for _, k := range s.Q {
		m.queue(k)
	}
	return m
}

// set changes a key's place; one that is nowhere any more has none.
func (m *model) set(k uint64, change func(p *place)) {
	p := m.places[k]
	change(&p)
	m.places[k] = p
	if p.stacked == 0 && p.queued == 0 {
		delete(m.places, k)
	}
}

func (m *model) stack(k uint64, kind int) {
	m.now++
	m.set(k, func(p *place) { p.kind, p.stacked = kind, m.now })
}

func (m *model) queue(k uint64) {
	m.now++
	m.set(k, func(p *place) { p.queued = m.now })
}

func (m *model) unstack(k uint64) { m.set(k, func(p *place) { p.kind, p.stacked = 0, 0 }) }

func (m *model) unqueue(k uint64) { m.set(k, func(p *place) { p.queued = 0 }) }

func (m *model) is(k uint64, kind int) bool {
	p := m.places[k]
	return p.stacked > 0 && p.kind == kind
}

func (m *model) has(k uint64) bool { return m.is(k, Hot) || m.places[k].queued > 0 }

func (m *model) count(kind int) int {
	n := 0
	for k := range m.places {
		if m.is(k, kind) {
			n++
		}
	}
	return n
}

func (m *model) keys() int {
	n := 0
	for k := range m.places {
		if m.has(k) {
			n++
		}
	}
	return n
}

func (m *model) room() int {
	if m.c < 100 {
		return m.c - 1
	}
	return m.c - m.c/100
}

// least is the key with the least of some times above 0.
func (m *model) least(time func(k uint64, p place) int) (uint64, bool) {
	var key uint64
	first := math.MaxInt
	for k, p := range m.places {
		if at := time(k, p); at > 0 && at < first {
			key, first = k, at
		}
	}
	return key, first < math.MaxInt
}

// last is the last key of S of those of a kind, or of any kind.
func (m *model) last(kinds ...int) (uint64, bool) {
	return m.least(func(_ uint64, p place) int {
		if slices.Contains(kinds, p.kind) {
			return p.stacked
		}
		return 0
	})
}

func (m *model) prune() {
	for {
		k, ok := m.last(Gone, Cold, Hot)
		if !ok || m.is(k, Hot) {
			return
		}
		m.unstack(k)
	}
}

func (m *model) cool() {
	for m.count(Hot) > m.room() {
		k, _ := m.last(Hot)
		m.set(k, func(p *place) { p.kind = Cold })
		m.queue(k)
		m.prune()
	}
}

// evict is of a model that has more than so many keys.
func (m *model) evict(most int) []uint64 {
	var evicted []uint64
	for m.keys() > most {
		k, _ := m.least(func(_ uint64, p place) int { return p.queued })
		evicted = append(evicted, k)
		m.set(k, func(p *place) { p.kind = Gone })
		m.unqueue(k)
	}
	return evicted
}

func (m *model) forget() {
	for m.count(Gone) > m.c {
		k, _ := m.last(Gone)
		m.unstack(k)
	}
}

func (m *model) touch(k uint64) {
	switch {
	case m.is(k, Hot):
		m.stack(k, Hot)
	case m.places[k].queued == 0:
		return
	case m.places[k].stacked > 0:
		m.stack(k, Hot)
		m.unqueue(k)
		m.cool()
	default:
		m.stack(k, Cold)
		m.queue(k)
	}
	m.prune()
}

func (m *model) admit(k uint64) []uint64 {
	if m.has(k) {
		return nil
	}
	evicted := m.evict(m.c - 1)
	if m.count(Hot) < m.room() || m.places[k].stacked > 0 {
		m.stack(k, Hot)
		m.cool()
	} else {
		m.stack(k, Cold)
		m.queue(k)
	}
	m.prune()
	m.forget()
	return evicted
}

func (m *model) drop(k uint64) {
	delete(m.places, k)
	m.prune()
}

func (m *model) resize(c int) []uint64 {
	m.c = inBounds(c)
	m.cool()
	evicted := m.evict(m.c)
	m.prune()
	m.forget()
	return evicted
}

// state is the model's, its lists written out.
func (m *model) state() State {
	s := State{C: m.c}
	for k, p := range m.places {
		if p.stacked > 0 {
			s.S = append(s.S, Item{k, p.kind})
		}
		if p.queued > 0 {
			s.Q = append(s.Q, k)
		}
	}
	slices.SortFunc(s.S, func(a, b Item) int { return m.places[b.Key].stacked - m.places[a.Key].stacked })
	slices.SortFunc(s.Q, func(a, b uint64) int { return m.places[a].queued - m.places[b].queued })
	return s
}

// kind is one of the calls that change a state.
type kind int

const (
	touch kind = iota
	admit
	drop
	resize
)

// step is such a call, with its key, or its capacity.
type step struct {
	kind kind
	k    uint64
	c    int
}

func (p step) String() string {
	switch p.kind {
	case touch:
		return "Touch " + strconv.FormatUint(p.k, 10)
	case admit:
		return "Admit " + strconv.FormatUint(p.k, 10)
	case drop:
		return "Drop " + strconv.FormatUint(p.k, 10)
	}
	return "Resize " + strconv.Itoa(p.c)
}

// do takes a step from a state.
func (p step) do(s State) (State, []uint64) {
	switch p.kind {
	case touch:
		return Touch(s, p.k), nil
	case admit:
		return Admit(s, p.k)
	case drop:
		return Drop(s, p.k), nil
	}
	return Resize(s, p.c)
}

// follow takes it in the model.
func (p step) follow(m *model) []uint64 {
	switch p.kind {
	case touch:
		m.touch(p.k)
	case admit:
		return m.admit(p.k)
	case drop:
		m.drop(p.k)
	case resize:
		return m.resize(p.c)
	}
	return nil
}

// stepsOf are all calls that change a state, with each of its keys, one that is nowhere, and capacities of all sorts.
func stepsOf(s State) []step {
	var all []step
	for _, k := range append(allKeys(s), 1<<33) {
		all = append(all, step{kind: touch, k: k}, step{kind: admit, k: k}, step{kind: drop, k: k})
	}
	for c := range s.C + 3 {
		all = append(all, step{kind: resize, c: c})
	}
	for _, c := range []int{math.MinInt, -1, 100, 200, 1048576, 1048577, math.MaxInt} {
		all = append(all, step{kind: resize, c: c})
	}
	return all
}

// woven are all lists that have the keys of two, each in its turn.
func woven(a, b []uint64) [][]uint64 {
	if len(a) == 0 || len(b) == 0 {
		return [][]uint64{slices.Concat(a, b)}
	}
	var all [][]uint64
	for _, l := range woven(a[1:], b) {
		all = append(all, append(list(a[0]), l...))
	}
	for _, l := range woven(a, b[1:]) {
		all = append(all, append(list(b[0]), l...))
	}
	return all
}

// shapes are all states of a capacity that there may be, but for the names of their keys. Which ones those are goes on from state to state, so that 0 and the greatest key come to stand everywhere. What is Gone was cold ahead of all that is Cold; what is Cold is so in the same turn in S, from its end on, as in Q.
func shapes(c int) []State {
	var all []State
	for hot := range c {
		for cold := range c + 1 - hot {
			for single := range c + 1 - hot - cold {
				for gone := range c + 1 {
					if hot > 0 || cold+gone == 0 {
						all = append(all, shaped(len(all), c, hot, cold, single, gone)...)
					}
				}
			}
		}
	}
	if c == 1 {
		all = append(all, State{C: 1, Q: list(0)}, State{C: 1, Q: list(greatest)})
	}
	return all
}

// shaped are those with so many Hot items, so many Cold ones, so many keys in Q alone, and so many that are Gone.
func shaped(n, c, hot, cold, single, gone int) []State {
	named := func(count int) []uint64 {
		names := list(0, 1, 1<<32, greatest, 2, 1<<32|1, 3, 4, 5, 6, 7, 8, 9, 10)
		var l []uint64
		for range count {
			l = append(l, names[n%len(names)])
			n++
		}
		return l
	}
	hots, colds, singles, ghosts := named(hot), named(cold), named(single), named(gone)
	kinds := map[uint64]int{}
	for _, k := range hots {
		kinds[k] = Hot
	}
	for _, k := range colds {
		kinds[k] = Cold
	}
	var all []State
	for _, stack := range woven(hots, slices.Concat(colds, ghosts)) {
		if len(stack) > 0 && kinds[stack[len(stack)-1]] != Hot {
			continue
		}
		for _, q := range woven(backward(colds), singles) {
			s := State{C: c, Q: q}
			for _, k := range stack {
				s.S = append(s.S, Item{k, kinds[k]})
			}
			all = append(all, s)
		}
	}
	return all
}

// inItsBounds asks for what follows of every state: P12.5.
func inItsBounds(t *testing.T, what string, s State) {
	t.Helper()
	counts := map[int]int{}
	for i, item := range s.S {
		counts[item.Kind]++
		if queued := slices.Contains(s.Q, item.Key); queued != (item.Kind == Cold) {
			t.Errorf("%s: in Q %t: %d", what, queued, item)
		}
		if i == len(s.S)-1 && item.Kind != Hot {
			t.Errorf("%s: the last one isn't Hot: %d", what, s)
		}
	}
	if counts[Hot]+len(s.Q) > s.C || counts[Hot] > s.C-max(s.C/100, 1) || counts[Gone] > s.C || len(counts) > 3 {
		t.Errorf("%s: too many: %d", what, s)
	}
	inStack := allKeys(State{S: s.S})
	if twice(inStack) || twice(s.Q) {
		t.Errorf("%s: a key is twice: %d", what, s)
	}
}

func twice(l []uint64) bool {
	l = slices.Sorted(slices.Values(l))
	return len(slices.Compact(slices.Clone(l))) != len(l)
}

// fits holds a state, and all that is asked of it, against the model.
func fits(t *testing.T, what string, s State, m *model) {
	t.Helper()
	sameState(t, what, s, m.state())
	inItsBounds(t, what, s)
}

// P12.1 to P12.5: of all small states, and behind each call, all is as the model has it. What a call leads to is one of the shapes again, so that there are no others.
func TestAllStates(t *testing.T) {
	for c := 1; c <= 5; c++ {
		for _, s := range shapes(c) {
			fits(t, "ahead", s, modelOf(s))
			for _, p := range stepsOf(s) {
				m := modelOf(s)
				want := p.follow(m)
				got, evicted := p.do(s)
				fits(t, fmt.Sprintf("%s of %d", p, s), got, m)
				same(t, fmt.Sprintf("%s of %d, evicted", p, s), evicted, want)
			}
			if t.Failed() {
				return
			}
		}
	}
}

// someStep takes a step by chance, of so many keys.
func someStep(r *rand.Rand, keys int) step {
	k := uint64(r.IntN(keys))
	if k == 3 {
		k = greatest
	}
	switch n := r.IntN(40); {
	case n < 10:
		return step{kind: touch, k: k}
	case n < 37:
		return step{kind: admit, k: k}
	case n < 39:
		return step{kind: drop, k: k}
	}
	return step{kind: resize, c: r.IntN(keys+2) - 1}
}

// P12.1 to P12.5: long scripts, step by step as the model.
func TestScripts(t *testing.T) {
	for seed := range uint64(60) {
		r := rand.New(rand.NewPCG(seed, 12))
		keys := 4 + r.IntN(40)
		c := r.IntN(keys)
		s, m := New(c), newModel(c)
		for range 400 {
			s = followed(t, s, m, someStep(r, keys))
		}
	}
}

// followed takes a step from a state, and in the model.
func followed(t *testing.T, s State, m *model, p step) State {
	t.Helper()
	want := p.follow(m)
	next, evicted := p.do(s)
	fits(t, p.String(), next, m)
	same(t, p.String()+", evicted", evicted, want)
	return next
}

// P12.1 to P12.5: of capacities that have room for several cold keys: scripts that use them up, and those in which hot ones are dropped, so that more are in Q.
func TestWideScripts(t *testing.T) {
	for seed := range uint64(4) {
		r := rand.New(rand.NewPCG(seed, 1200))
		c := 200 + r.IntN(300)
		s, m := New(c), newModel(c)
		for k := range uint64(c) {
			p := step{kind: admit, k: k + 1000}
			p.follow(m)
			s, _ = p.do(s)
		}
		for range 1000 {
			p := someStep(r, 24)
			switch n := r.IntN(20); {
			case p.kind == resize:
				p.c = c + r.IntN(20) - 10
			case n == 0:
				p.k = 1000 + uint64(r.IntN(c))
			case p.kind == touch && n < 10 && len(s.Q) > 0:
				p.k = s.Q[r.IntN(len(s.Q))]
			}
			s = followed(t, s, m, p)
		}
		for len(Keys(s)) > 8 {
			s = followed(t, s, m, step{kind: drop, k: Keys(s)[r.IntN(min(c, len(Keys(s)))*4/5)]})
		}
		for range 300 {
			s = followed(t, s, m, someStep(r, 24))
		}
	}
}

// P12.5, P6: whatever is called of whatever keys, there are no more than there may be, and a Resize evicts just as many as are too many.
func TestBounds(t *testing.T) {
	for seed := range uint64(20) {
		r := rand.New(rand.NewPCG(seed, 125))
		s := New(1 + r.IntN(400))
		for range 2000 {
			p := someStep(r, 500)
			ahead := len(Keys(s))
			next, evicted := p.do(s)
			inItsBounds(t, p.String(), next)
			if p.kind == resize && len(evicted) != max(ahead-next.C, 0) {
				t.Errorf("%s of %d keys: %d were evicted", p, ahead, len(evicted))
			}
			s = next
		}
	}
}
