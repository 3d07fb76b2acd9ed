package etwoq

import (
	"math"
	"reflect"
	"slices"
	"strconv"
	"testing"

	"hopper/twoq"
)

const greatest = math.MaxUint64

// mark begins the keys that tests use for themselves: no Cache of a test has one of them, but while it is built.
const mark = 0xdead0000

// list writes a list of keys shortly.
func list(keys ...uint64) []uint64 { return keys }

// run is a list of the keys from one on to another one, with both.
func run(from, to uint64) []uint64 {
	l := make([]uint64, to-from+1)
	for i := range l {
		l[i] = from + uint64(i)
	}
	return l
}

// state writes one of twoq's shortly.
func state(c int, in, out, main []uint64) twoq.State {
	return twoq.State{C: c, In: in, Out: out, Main: main}
}

// kind is one of the calls that change a Cache.
type kind int

const (
	touch kind = iota
	admit
	drop
	resize
)

// step is such a call, with its key, or its capacity.
type step struct {
	kind kind
	k    uint64
	c    int
}

func toTouch(k uint64) step { return step{kind: touch, k: k} }
func toAdmit(k uint64) step { return step{kind: admit, k: k} }
func toDrop(k uint64) step  { return step{kind: drop, k: k} }
func toResize(c int) step   { return step{kind: resize, c: c} }

func (p step) String() string {
	switch p.kind {
	case touch:
		return "Touch " + strconv.FormatUint(p.k, 10)
	case admit:
		return "Admit " + strconv.FormatUint(p.k, 10)
	case drop:
		return "Drop " + strconv.FormatUint(p.k, 10)
	}
	return "Resize " + strconv.Itoa(p.c)
}

// do takes a step of a Cache.
func (p step) do(x *Cache) []uint64 {
	switch p.kind {
	case touch:
		x.Touch(p.k)
	case admit:
		return x.Admit(p.k)
	case drop:
		x.Drop(p.k)
	case resize:
		return x.Resize(p.c)
	}
	return nil
}

// follow takes it from twoq's state.
func (p step) follow(s twoq.State) (twoq.State, []uint64) {
	switch p.kind {
	case touch:
		return twoq.Touch(s, p.k), nil
	case admit:
		return twoq.Admit(s, p.k)
	case drop:
		return twoq.Drop(s, p.k), nil
	}
	return twoq.Resize(s, p.c)
}

// backwards are Admits of a list's keys, the last one first.
func backwards(l []uint64) []step {
	var all []step
	for _, k := range slices.Backward(l) {
		all = append(all, toAdmit(k))
	}
	return all
}

// building is a capacity, and steps that lead from New of it to a state: keys that are to be remembered, or to come again, are evicted by others, which are dropped then.
func building(s twoq.State) (int, []step) {
	n := len(s.In) + len(s.Out) + len(s.Main) + 1
	others := run(mark+1, mark+2*uint64(n))
	all := slices.Concat(backwards(s.Main), backwards(s.Out), backwards(others))
	all = append(all, toResize(2*n))
	for _, k := range others {
		all = append(all, toDrop(k))
	}
	all = slices.Concat(all, backwards(s.Main), backwards(s.In))
	return 4 * n, append(all, toResize(s.C))
}

// cache is one of a state, by calls.
func cache(s twoq.State) *Cache {
	c, steps := building(s)
	x := New(c)
	for _, p := range steps {
		p.do(x)
	}
	return x
}

func same(t *testing.T, what string, got, want []uint64) {
	t.Helper()
	if !slices.Equal(got, want) {
		t.Errorf("%s: %d, not %d", what, got, want)
	}
}

func equal(s, r twoq.State) bool {
	return s.C == r.C && slices.Equal(s.In, r.In) && slices.Equal(s.Out, r.Out) && slices.Equal(s.Main, r.Main)
}

// has holds what a Cache tells of itself against a state, written out.
func has(t *testing.T, what string, x *Cache, s twoq.State) {
	t.Helper()
	if got := x.State(); !equal(got, s) {
		t.Errorf("%s, State: %d, not %d", what, got, s)
	}
	there := slices.Concat(s.In, s.Main)
	same(t, what+", Keys", x.Keys(), there)
	if g := x.Ghosts(); g != len(s.Out) {
		t.Errorf("%s, Ghosts: %d, not %d", what, g, len(s.Out))
	}
	for _, k := range slices.Concat(list(0, 1, 2, 9, 1<<32, greatest, mark+1), there, s.Out) {
		if x.Has(k) != slices.Contains(there, k) {
			t.Errorf("%s, Has %d: %t", what, k, x.Has(k))
		}
	}
}

// change is what a step makes of a state, written out.
type change struct {
	from    twoq.State
	p       step
	to      twoq.State
	evicted []uint64
}

// hold holds a change against what a Cache makes of the state, and twoq.
func (c change) hold(t *testing.T) {
	t.Helper()
	what := c.p.String()
	x := cache(c.from)
	has(t, "ahead of "+what, x, c.from)
	same(t, what+", evicted", c.p.do(x), c.evicted)
	has(t, what, x, c.to)
	s, evicted := c.p.follow(c.from)
	if !equal(s, c.to) || !slices.Equal(evicted, c.evicted) {
		t.Errorf("twoq, %s: %d, and %d", what, s, evicted)
	}
}

// stays is a change that is none.
func stays(s twoq.State, p step) change { return change{s, p, s, nil} }

// P15.1: New, of capacities below 1, 1, 2, 3, 4, the greatest one, and above it.
func TestNew(t *testing.T) {
	for _, c := range []struct{ c, want int }{
		{math.MinInt, 1}, {math.MinInt32, 1}, {-1, 1}, {0, 1}, {1, 1}, {2, 2}, {3, 3}, {4, 4}, {7, 7},
		{1048575, 1048575}, {1048576, 1048576}, {1048577, 1048576}, {1 << 32, 1048576}, {math.MaxInt, 1048576},
	} {
		has(t, "New", New(c.c), state(c.want, nil, nil, nil))
		if s := twoq.New(c.c); s.C != c.want {
			t.Errorf("twoq.New of %d: %d", c.c, s)
		}
	}
}

// P15.1: Touch of a key in In, of one in Main (in front, in between, behind), of one that is remembered, and of one that isn't there.
func TestTouch(t *testing.T) {
	full := state(8, list(1, 2, 3), list(4, 5, 6), list(7, 0, greatest))
	for _, c := range []change{
		stays(full, toTouch(1)), stays(full, toTouch(2)), stays(full, toTouch(3)),
		stays(full, toTouch(4)), stays(full, toTouch(5)), stays(full, toTouch(6)),
		stays(full, toTouch(7)),
		{full, toTouch(0), state(8, full.In, full.Out, list(0, 7, greatest)), nil},
		{full, toTouch(greatest), state(8, full.In, full.Out, list(greatest, 7, 0)), nil},
		stays(full, toTouch(9)), stays(full, toTouch(1<<32|7)),
		stays(state(2, nil, nil, nil), toTouch(0)),
		stays(state(2, nil, nil, nil), toTouch(greatest)),
		stays(state(1, list(0), nil, nil), toTouch(0)),
		stays(state(1, nil, nil, list(0)), toTouch(0)),
		stays(state(1, nil, nil, list(greatest)), toTouch(0)),
		stays(state(2, list(1), list(0), nil), toTouch(0)),
		stays(state(2, list(greatest, 1), list(2), nil), toTouch(greatest)),
	} {
		c.hold(t)
	}
}

// P15.1: Admit of a key that is there, in In or in Main, where it stays in its place, with room and without.
func TestAdmitOfAKey(t *testing.T) {
	for _, s := range []twoq.State{
		state(9, list(1, 2, 0), list(4, 5), list(7, 8, greatest)),
		state(6, list(1, 2, 0), list(4, 5), list(7, 8, greatest)),
		state(1, list(0), nil, nil),
		state(1, nil, nil, list(greatest)),
	} {
		for _, k := range slices.Concat(s.In, s.Main) {
			stays(s, toAdmit(k)).hold(t)
		}
	}
}

// P15.1: Admit of a key that is neither there nor remembered, with room and without.
func TestAdmitOfANewKey(t *testing.T) {
	for _, c := range []change{
		{state(1, nil, nil, nil), toAdmit(0), state(1, list(0), nil, nil), nil},
		{state(1048576, list(1), nil, nil), toAdmit(greatest), state(1048576, list(greatest, 1), nil, nil), nil},
		{state(4, list(1), list(2, 3), list(4, 5)), toAdmit(6), state(4, list(6, 1), list(2, 3), list(4, 5)), nil},
		// Main has none: nothing is remembered of capacity 1, one key of 2 and 3.
		{state(1, list(0), nil, nil), toAdmit(greatest), state(1, list(greatest), nil, nil), list(0)},
		{state(2, list(0, greatest), nil, nil), toAdmit(1), state(2, list(1, 0), list(greatest), nil), list(greatest)},
		{state(2, list(1, 2), list(3), nil), toAdmit(4), state(2, list(4, 1), list(2), nil), list(2)},
		{state(3, list(1, 2, 3), list(4), nil), toAdmit(5), state(3, list(5, 1, 2), list(3), nil), list(3)},
		{state(4, list(1, 2, 3, 4), list(5), nil), toAdmit(6), state(4, list(6, 1, 2, 3), list(4, 5), nil), list(4)},
		{state(4, list(1, 2, 3, 4), list(5, 7), nil), toAdmit(6), state(4, list(6, 1, 2, 3), list(4, 5), nil), list(4)},
		// In has more than kin keys: kin is 1 up to 7, and 2 from 8 on.
		{state(4, list(1, 2), list(5, 7), list(8, 9)), toAdmit(6), state(4, list(6, 1), list(2, 5), list(8, 9)), list(2)},
		{state(7, list(1, 2), nil, run(11, 15)), toAdmit(6), state(7, list(6, 1), list(2), run(11, 15)), list(2)},
		{state(8, list(1, 2, 3), list(7), run(11, 15)), toAdmit(6), state(8, list(6, 1, 2), list(3, 7), run(11, 15)), list(3)},
		// In hasn't.
		{state(1, nil, nil, list(1)), toAdmit(2), state(1, list(2), nil, nil), list(1)},
		{state(2, list(1), list(5), list(2)), toAdmit(6), state(2, list(6, 1), list(5), nil), list(2)},
		{state(3, nil, list(5), list(1, 2, 3)), toAdmit(6), state(3, list(6), list(5), list(1, 2)), list(3)},
		{state(4, list(1), list(5, 7), list(8, 9, 0)), toAdmit(6), state(4, list(6, 1), list(5, 7), list(8, 9)), list(0)},
		{state(8, list(1, 2), nil, run(11, 16)), toAdmit(6), state(8, list(6, 1, 2), nil, run(11, 15)), list(16)},
		{state(11, list(1, 2), nil, run(11, 19)), toAdmit(6), state(11, list(6, 1, 2), nil, run(11, 18)), list(19)},
	} {
		c.hold(t)
	}
}

// P15.1: Admit of a key that is remembered, with room and without: it is forgotten ahead of what is evicted for it, which so finds a place in Out.
func TestAdmitOfAGhost(t *testing.T) {
	for _, c := range []change{
		{state(2, nil, list(0), nil), toAdmit(0), state(2, nil, nil, list(0)), nil},
		{state(6, list(1, 2), list(3, greatest, 4), list(5)), toAdmit(greatest), state(6, list(1, 2), list(3, 4), list(greatest, 5)), nil},
		{state(2, list(1, 2), list(3), nil), toAdmit(3), state(2, list(1), list(2), list(3)), list(2)},
		{state(2, nil, list(3), list(4, 5)), toAdmit(3), state(2, nil, nil, list(3, 4)), list(5)},
		{state(4, list(1, 2), list(5, 6), list(3, 4)), toAdmit(5), state(4, list(1), list(2, 6), list(5, 3, 4)), list(2)},
		{state(4, list(1, 2), list(5, 6), list(3, 4)), toAdmit(6), state(4, list(1), list(2, 5), list(6, 3, 4)), list(2)},
		{state(4, list(1), list(5, 6), list(2, 3, 4)), toAdmit(5), state(4, list(1), list(6), list(5, 2, 3)), list(4)},
		{state(4, run(1, 4), list(0), nil), toAdmit(0), state(4, run(1, 3), list(4), list(0)), list(4)},
	} {
		c.hold(t)
	}
}

// act is a step of a script that is written out, and what is evicted, and the state, behind it.
type act struct {
	p       step
	evicted []uint64
	to      twoq.State
}

// play holds a Cache against a script.
func play(t *testing.T, x *Cache, acts []act) {
	t.Helper()
	for _, a := range acts {
		same(t, a.p.String()+", evicted", a.p.do(x), a.evicted)
		has(t, a.p.String(), x, a.to)
	}
}

// P15.1: a key that is admitted again behind its eviction, by an Admit or a Resize, comes to Main; what left Main isn't remembered.
func TestAdmittedAgainBehindItsEviction(t *testing.T) {
	play(t, New(2), []act{
		{toAdmit(0), nil, state(2, list(0), nil, nil)},
		{toAdmit(greatest), nil, state(2, list(greatest, 0), nil, nil)},
		{toAdmit(1), list(0), state(2, list(1, greatest), list(0), nil)},
		{toAdmit(0), list(greatest), state(2, list(1), list(greatest), list(0))},
		{toAdmit(greatest), list(0), state(2, list(1), nil, list(greatest))},
		{toAdmit(0), list(greatest), state(2, list(0, 1), nil, nil)},
		{toAdmit(greatest), list(1), state(2, list(greatest, 0), list(1), nil)},
	})
	play(t, cache(state(4, list(3, 2, 1), nil, nil)), []act{
		{toResize(2), list(1), state(2, list(3, 2), list(1), nil)},
		{toAdmit(1), list(2), state(2, list(3), list(2), list(1))},
		{toResize(3), nil, state(3, list(3), list(2), list(1))},
		{toAdmit(2), nil, state(3, list(3), nil, list(2, 1))},
	})
}

// P15.1: a key that is admitted again behind its being forgotten, by an Admit or a Resize, comes as a new one; so does one that differs from what is remembered in its upper bits alone.
func TestAdmittedAgainBehindItsForgetting(t *testing.T) {
	play(t, New(2), []act{
		{toAdmit(1), nil, state(2, list(1), nil, nil)},
		{toAdmit(2), nil, state(2, list(2, 1), nil, nil)},
		{toAdmit(3), list(1), state(2, list(3, 2), list(1), nil)},
		{toAdmit(4), list(2), state(2, list(4, 3), list(2), nil)},
		{toAdmit(1), list(3), state(2, list(1, 4), list(3), nil)},
		{toAdmit(1<<32 | 3), list(4), state(2, list(1<<32|3, 1), list(4), nil)},
	})
	play(t, cache(state(4, list(1, 2), list(3, 4), nil)), []act{
		{toResize(3), nil, state(3, list(1, 2), list(3), nil)},
		{toAdmit(4), nil, state(3, list(4, 1, 2), list(3), nil)},
		{toResize(1), list(2, 1), state(1, list(4), nil, nil)},
		{toResize(4), nil, state(4, list(4), nil, nil)},
		{toAdmit(3), nil, state(4, list(3, 4), nil, nil)},
		{toAdmit(1), nil, state(4, list(1, 3, 4), nil, nil)},
	})
}

// P15.1: a key that is admitted again behind its Drop, out of whichever list, comes as a new one.
func TestAdmittedAgainBehindItsDrop(t *testing.T) {
	play(t, cache(state(4, list(1, 0), list(2, 3), list(greatest, 4))), []act{
		{toDrop(0), nil, state(4, list(1), list(2, 3), list(greatest, 4))},
		{toAdmit(0), nil, state(4, list(0, 1), list(2, 3), list(greatest, 4))},
		{toDrop(3), nil, state(4, list(0, 1), list(2), list(greatest, 4))},
		{toAdmit(3), list(1), state(4, list(3, 0), list(1, 2), list(greatest, 4))},
		{toDrop(greatest), nil, state(4, list(3, 0), list(1, 2), list(4))},
		{toAdmit(greatest), nil, state(4, list(greatest, 3, 0), list(1, 2), list(4))},
		{toDrop(greatest), nil, state(4, list(3, 0), list(1, 2), list(4))},
		{toAdmit(5), nil, state(4, list(5, 3, 0), list(1, 2), list(4))},
		{toAdmit(greatest), list(0), state(4, list(greatest, 5, 3), list(0, 1), list(4))},
	})
}

// P15.1: keys fall off the back of Out beyond half of the capacity, the one that was evicted first as the first one.
func TestOutFalls(t *testing.T) {
	for _, c := range []struct {
		c    int
		want []uint64
	}{
		{1, nil}, {2, list(7)}, {3, list(6)}, {4, list(5, 4)}, {5, list(4, 3)}, {6, list(3, 2, 1)}, {7, list(2, 1)}, {8, list(1)}, {9, nil},
	} {
		x := New(c.c)
		for k := range uint64(9) {
			x.Admit(k + 1)
		}
		there := run(10-uint64(c.c), 9)
		slices.Reverse(there)
		has(t, "nine keys", x, state(c.c, there, c.want, nil))
	}
}

// P15.1: Drop of a key in each list, and of one in none; what is dropped isn't remembered, and makes room.
func TestDrop(t *testing.T) {
	s := state(6, list(0, 1, 2), list(3, 4, 5), list(6, 7, greatest))
	for _, c := range []change{
		{s, toDrop(0), state(6, list(1, 2), s.Out, s.Main), nil},
		{s, toDrop(1), state(6, list(0, 2), s.Out, s.Main), nil},
		{s, toDrop(2), state(6, list(0, 1), s.Out, s.Main), nil},
		{s, toDrop(3), state(6, s.In, list(4, 5), s.Main), nil},
		{s, toDrop(4), state(6, s.In, list(3, 5), s.Main), nil},
		{s, toDrop(5), state(6, s.In, list(3, 4), s.Main), nil},
		{s, toDrop(6), state(6, s.In, s.Out, list(7, greatest)), nil},
		{s, toDrop(7), state(6, s.In, s.Out, list(6, greatest)), nil},
		{s, toDrop(greatest), state(6, s.In, s.Out, list(6, 7)), nil},
		stays(s, toDrop(8)),
		stays(s, toDrop(1<<32|1)),
		stays(state(1, nil, nil, nil), toDrop(0)),
		stays(state(1, nil, nil, nil), toDrop(greatest)),
		{state(1, list(0), nil, nil), toDrop(0), state(1, nil, nil, nil), nil},
		{state(2, nil, list(0), nil), toDrop(0), state(2, nil, nil, nil), nil},
	} {
		c.hold(t)
		x := cache(c.from)
		for range 2 {
			x.Drop(c.p.k)
			x.Touch(c.p.k)
		}
		has(t, c.p.String()+", once more, and a Touch of it", x, c.to)
	}
	x := cache(s)
	x.Drop(7)
	same(t, "Admit behind a Drop, evicted", x.Admit(8), nil)
	has(t, "Admit behind a Drop", x, state(6, list(8, 0, 1, 2), s.Out, list(6, greatest)))
}

// P15.1, P6: Resize to more, to the same, to less, to 1, below 1, and above the greatest one, with keys in all lists, and in some: In is evicted down to the new kin, Main behind it, and what is left of In at last.
func TestResize(t *testing.T) {
	s := state(8, list(1, 2, 3, 4), list(11, 12, 13, 14), list(5, 6, 7, 8))
	onlyIn := state(8, run(1, 8), list(9, 0), nil)
	onlyMain := state(8, nil, list(9, 0, greatest), run(1, 8))
	for _, c := range []change{
		{s, toResize(math.MaxInt), state(1048576, s.In, s.Out, s.Main), nil},
		{s, toResize(1048577), state(1048576, s.In, s.Out, s.Main), nil},
		{s, toResize(1048576), state(1048576, s.In, s.Out, s.Main), nil},
		{s, toResize(9), state(9, s.In, s.Out, s.Main), nil},
		stays(s, toResize(8)),
		{s, toResize(7), state(7, list(1, 2, 3), list(4, 11, 12), s.Main), list(4)},
		{s, toResize(6), state(6, list(1, 2), list(3, 4, 11), s.Main), list(4, 3)},
		{s, toResize(5), state(5, list(1), list(2, 3), s.Main), list(4, 3, 2)},
		{s, toResize(4), state(4, list(1), list(2, 3), list(5, 6, 7)), list(4, 3, 2, 8)},
		{s, toResize(3), state(3, list(1), list(2), list(5, 6)), list(4, 3, 2, 8, 7)},
		{s, toResize(2), state(2, list(1), list(2), list(5)), list(4, 3, 2, 8, 7, 6)},
		{s, toResize(1), state(1, list(1), nil, nil), list(4, 3, 2, 8, 7, 6, 5)},
		{s, toResize(0), state(1, list(1), nil, nil), list(4, 3, 2, 8, 7, 6, 5)},
		{s, toResize(math.MinInt), state(1, list(1), nil, nil), list(4, 3, 2, 8, 7, 6, 5)},
		{onlyIn, toResize(5), state(5, run(1, 5), list(6, 7), nil), list(8, 7, 6)},
		{onlyIn, toResize(7), state(7, run(1, 7), list(8, 9, 0), nil), list(8)},
		{onlyIn, toResize(1), state(1, list(1), nil, nil), list(8, 7, 6, 5, 4, 3, 2)},
		{onlyMain, toResize(5), state(5, nil, list(9, 0), run(1, 5)), list(8, 7, 6)},
		{onlyMain, toResize(1), state(1, nil, nil, list(1)), list(8, 7, 6, 5, 4, 3, 2)},
		{state(8, list(1), run(2, 5), list(6)), toResize(4), state(4, list(1), list(2, 3), list(6)), nil}, // only Out has too many
		{state(8, nil, run(2, 5), nil), toResize(3), state(3, nil, list(2), nil), nil},
		{state(8, nil, run(2, 5), nil), toResize(-1), state(1, nil, nil, nil), nil},
		{state(12, run(1, 6), nil, run(7, 12)), toResize(8), state(8, run(1, 2), run(3, 6), run(7, 12)), list(6, 5, 4, 3)},
		{state(12, run(1, 6), nil, run(7, 12)), toResize(9), state(9, run(1, 3), run(4, 6), run(7, 12)), list(6, 5, 4)},
		{state(3, nil, nil, nil), toResize(5), state(5, nil, nil, nil), nil},
		{state(3, nil, nil, nil), toResize(0), state(1, nil, nil, nil), nil},
		stays(state(1, list(greatest), nil, nil), toResize(1)),
	} {
		c.hold(t)
	}
	x := cache(s)
	x.Resize(9)
	same(t, "Admit behind a Resize to more, evicted", x.Admit(0), nil)
	has(t, "Admit behind a Resize to more", x, state(9, list(0, 1, 2, 3, 4), s.Out, s.Main))
	same(t, "Resize to less, evicted", x.Resize(4), list(4, 3, 2, 1, 8))
	same(t, "Admit behind a Resize to less, evicted", x.Admit(2), list(7))
	has(t, "Admit behind a Resize to less", x, state(4, list(0), list(1), list(2, 5, 6)))
}

// P15.2: a nil Cache does nothing, and tells nothing, whatever is handed in.
func TestNilCache(t *testing.T) {
	var x *Cache
	for range 2 {
		for _, p := range triedSteps(list(0, 1, 2, 1<<32, greatest)) {
			same(t, p.String(), p.do(x), nil)
			has(t, p.String(), x, twoq.State{})
			if nodes, keys := x.Rooms(); nodes != 0 || keys != 0 {
				t.Errorf("%v, Rooms: %d, %d", p, nodes, keys)
			}
		}
	}
}

// The chapter's example, and those of the document and of chapter 9.
func TestExamples(t *testing.T) {
	x := New(2)
	same(t, "Admit 1", x.Admit(1), nil)
	same(t, "Admit 2", x.Admit(2), nil)
	same(t, "Admit 3", x.Admit(3), list(1))
	if x.Ghosts() != 1 || x.Has(1) {
		t.Errorf("%d are remembered", x.Ghosts())
	}
	has(t, "behind it", x, state(2, list(3, 2), list(1), nil))

	x = New(4)
	for k := range uint64(4) {
		same(t, "Admit", x.Admit(k+1), nil)
	}
	same(t, "Admit 5", x.Admit(5), list(1))
	has(t, "behind 5", x, state(4, list(5, 4, 3, 2), list(1), nil))
	same(t, "Admit 1 once more", x.Admit(1), list(2))
	has(t, "behind 1 once more", x, state(4, list(5, 4, 3), list(2), list(1)))
}

// The chapter lists no other calls, and no fields: nobody can lay keys past the policy.
func TestNoOtherCalls(t *testing.T) {
	var names []string
	for m := range reflect.TypeFor[*Cache]().Methods() {
		names = append(names, m.Name)
	}
	want := []string{"Admit", "Drop", "Ghosts", "Has", "Keys", "Resize", "Rooms", "State", "Touch"}
	if !slices.Equal(names, want) {
		t.Errorf("%v", names)
	}
	for _, f := range reflect.VisibleFields(reflect.TypeFor[Cache]()) {
		if f.IsExported() {
			t.Errorf("field %s", f.Name)
		}
	}
}
