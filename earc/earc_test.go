package earc

import (
	"fmt"
	"math"
	"reflect"
	"slices"
	"strconv"
	"strings"
	"testing"

	"hopper/arc"
)

const greatest = math.MaxUint64

// mark begins the keys that tests use for themselves: no Cache of a test has one of them, but while it is built.
const mark = 0xdead0000

// list writes a list of keys shortly.
func list(keys ...uint64) []uint64 { return keys }

// run is a list of the keys from one on to another one, with both.
func run(from, to uint64) []uint64 {
	l := make([]uint64, to-from+1)
	for i := range l {
		l[i] = from + uint64(i)
	}
	return l
}

// back is a list of the keys from one down to another one, with both.
func back(from, to uint64) []uint64 {
	l := run(to, from)
	slices.Reverse(l)
	return l
}

// keys writes them still shorter: "g" is the greatest one.
func keys(text string) []uint64 {
	var l []uint64
	for _, word := range strings.Fields(text) {
		k, err := strconv.ParseUint(word, 10, 64)
		if err != nil {
			k = greatest
		}
		l = append(l, k)
	}
	return l
}

// state writes one of arc's shortly: T1, T2, B1 and B2, with bars between.
func state(c, p int, text string) arc.State {
	l := strings.Split(text, "|")
	return arc.State{C: c, P: p, T1: keys(l[0]), T2: keys(l[1]), B1: keys(l[2]), B2: keys(l[3])}
}

// there are the keys of a state that are there.
func there(s arc.State) []uint64 { return slices.Concat(s.T1, s.T2) }

// listsOf are a state's lists.
func listsOf(s arc.State) [][]uint64 { return [][]uint64{s.T1, s.T2, s.B1, s.B2} }

// kind is one of the calls that change a Cache.
type kind int

const (
	touch kind = iota
	admit
	drop
	resize
)

// step is such a call, with its key, or its capacity.
type step struct {
	kind kind
	k    uint64
	c    int
}

func toTouch(k uint64) step { return step{kind: touch, k: k} }
func toAdmit(k uint64) step { return step{kind: admit, k: k} }
func toDrop(k uint64) step  { return step{kind: drop, k: k} }
func toResize(c int) step   { return step{kind: resize, c: c} }

func (p step) String() string {
	switch p.kind {
	case touch:
		return "Touch " + strconv.FormatUint(p.k, 10)
	case admit:
		return "Admit " + strconv.FormatUint(p.k, 10)
	case drop:
		return "Drop " + strconv.FormatUint(p.k, 10)
	}
	return "Resize " + strconv.Itoa(p.c)
}

// do takes a step of a Cache.
func (p step) do(x *Cache) []uint64 {
	switch p.kind {
	case touch:
		x.Touch(p.k)
	case admit:
		return x.Admit(p.k)
	case drop:
		x.Drop(p.k)
	case resize:
		return x.Resize(p.c)
	}
	return nil
}

// follow takes it from arc's state.
func (p step) follow(s arc.State) (arc.State, []uint64) {
	switch p.kind {
	case touch:
		return arc.Touch(s, p.k), nil
	case admit:
		return arc.Admit(s, p.k)
	case drop:
		return arc.Drop(s, p.k), nil
	}
	return arc.Resize(s, p.c)
}

// backwards are steps of a list's keys, the last one first.
func backwards(l []uint64, of ...func(k uint64) step) []step {
	var all []step
	for _, k := range slices.Backward(l) {
		for _, to := range of {
			all = append(all, to(k))
		}
	}
	return all
}

// building is a capacity, and steps that lead from New of it to a state. What is to be remembered is evicted by others, of which as many as the target come again out of a B1 that has no less keys than B2.
func building(s arc.State) (int, []step) {
	n := s.P + len(s.B1) + len(s.B2) + 1
	c := 8 * (n + s.C)
	once := run(mark+1, mark+uint64(n))
	often := run(mark+uint64(n)+1, mark+3*uint64(n))
	again := slices.Clone(once[:s.P])
	slices.Reverse(again)
	return c, slices.Concat(
		backwards(slices.Concat(s.B1, once), toAdmit),
		backwards(slices.Concat(often, s.B2), toAdmit, toTouch),
		[]step{toResize(len(often))},
		backwards(often, toDrop),
		backwards(again, toAdmit),
		backwards(once, toDrop),
		[]step{toResize(c)},
		backwards(s.T2, toAdmit, toTouch),
		backwards(s.T1, toAdmit),
		[]step{toResize(s.C)},
	)
}

// cache is one of a state, by calls.
func cache(s arc.State) *Cache {
	c, steps := building(s)
	x := New(c)
	for _, p := range steps {
		p.do(x)
	}
	return x
}

func same(t *testing.T, what string, got, want []uint64) {
	t.Helper()
	if !slices.Equal(got, want) {
		t.Errorf("%s: %d, not %d", what, got, want)
	}
}

func equal(s, r arc.State) bool {
	return s.C == r.C && s.P == r.P && slices.EqualFunc(listsOf(s), listsOf(r), slices.Equal)
}

// has holds what a Cache tells of itself against a state, written out.
func has(t *testing.T, what string, x *Cache, s arc.State) {
	t.Helper()
	if got := x.State(); !equal(got, s) {
		t.Errorf("%s, State: %d, not %d", what, got, s)
	}
	same(t, what+", Keys", x.Keys(), there(s))
	if g := x.Ghosts(); g != len(s.B1)+len(s.B2) {
		t.Errorf("%s, Ghosts: %d, not %d", what, g, len(s.B1)+len(s.B2))
	}
	for _, k := range slices.Concat(list(0, 1, 2, 9, 1<<32, greatest, mark+1), there(s), s.B1, s.B2) {
		if x.Has(k) != slices.Contains(there(s), k) {
			t.Errorf("%s, Has %d: %t", what, k, x.Has(k))
		}
	}
}

// change is what a step makes of a state, written out.
type change struct {
	from    arc.State
	p       step
	to      arc.State
	evicted string
}

// hold holds a change against what a Cache makes of the state, and arc.
func (c change) hold(t *testing.T) {
	t.Helper()
	what := fmt.Sprintf("%v of %d", c.p, c.from)
	x := cache(c.from)
	has(t, "ahead of "+what, x, c.from)
	same(t, what+", evicted", c.p.do(x), keys(c.evicted))
	has(t, what, x, c.to)
	s, evicted := c.p.follow(c.from)
	if !equal(s, c.to) || !slices.Equal(evicted, keys(c.evicted)) {
		t.Errorf("arc, %s: %d, and %d", what, s, evicted)
	}
}

func holdAll(t *testing.T, all []change) {
	t.Helper()
	for _, c := range all {
		c.hold(t)
	}
}

// stays is a change that is none.
func stays(s arc.State, p step) change { return change{s, p, s, ""} }

// P17.1: New, of capacities below 1, 1, 2, 3, the greatest one, and above it.
func TestNew(t *testing.T) {
	for _, c := range []struct{ c, want int }{
		{math.MinInt, 1}, {math.MinInt32, 1}, {-1, 1}, {0, 1}, {1, 1}, {2, 2}, {3, 3}, {20, 20},
		{1048575, 1048575}, {1048576, 1048576}, {1048577, 1048576}, {1 << 32, 1048576}, {math.MaxInt, 1048576},
	} {
		has(t, "New", New(c.c), state(c.want, 0, "|||"))
		if s := arc.New(c.c); s.C != c.want {
			t.Errorf("arc.New of %d: %d", c.c, s)
		}
	}
}

// P17.1: Touch of a key in T1 and of one in T2 (in front, in between, behind), of one that is remembered, in B1 or in B2, and of one that isn't there.
func TestTouch(t *testing.T) {
	s := state(8, 3, "1 2 0|4 5 g|6 7 11|8 9 10")
	touched := func(k uint64, text string) change {
		return change{s, toTouch(k), state(8, 3, text), ""}
	}
	holdAll(t, []change{
		touched(1, "2 0|1 4 5 g|6 7 11|8 9 10"),
		touched(2, "1 0|2 4 5 g|6 7 11|8 9 10"),
		touched(0, "1 2|0 4 5 g|6 7 11|8 9 10"),
		stays(s, toTouch(4)),
		touched(5, "1 2 0|5 4 g|6 7 11|8 9 10"),
		touched(greatest, "1 2 0|g 4 5|6 7 11|8 9 10"),
		stays(s, toTouch(6)), stays(s, toTouch(7)), stays(s, toTouch(11)),
		stays(s, toTouch(8)), stays(s, toTouch(9)), stays(s, toTouch(10)),
		stays(s, toTouch(12)), stays(s, toTouch(1<<32|1)), stays(s, toTouch(1<<63)),
		stays(state(1, 0, "|||"), toTouch(0)),
		stays(state(2, 0, "|||"), toTouch(greatest)),
		{state(1, 0, "0|||"), toTouch(0), state(1, 0, "|0||"), ""},
		{state(1, 1, "g|||5"), toTouch(greatest), state(1, 1, "|g||5"), ""},
		stays(state(1, 1, "|g||"), toTouch(greatest)),
		stays(state(1, 1, "|g||"), toTouch(0)),
	})
}

// P17.1: Admit of a key that is there, in T1 or in T2, where it stays in its place, with room and without: nothing is evicted.
func TestAdmitOfAKey(t *testing.T) {
	for _, s := range []arc.State{
		state(9, 4, "1 2 0|4 5 g|6 7|8 9 10"), state(6, 3, "1 2 0|4 5 g|6 7|8 9 10"), state(1, 0, "0|||"), state(1, 1, "|g||5"),
	} {
		for _, k := range there(s) {
			stays(s, toAdmit(k)).hold(t)
		}
	}
}

// target is how far it goes by a key of a B1, or a B2.
type target struct {
	p      int
	b1, b2 string
	want   int
}

// P17.1: Admit of a key that is in B1, with room: P rises by 1, and by more, with B1 shorter than B2, as long, and longer, from 0, from between, to the capacity, and stays there.
func TestTargetRises(t *testing.T) {
	for _, c := range []target{
		{0, "1", "2 3 4", 3}, {0, "1 2", "3 4 5 6", 2}, {0, "1 2", "3 4 5 6 7", 2}, {0, "1 2", "3 4 5", 1},
		{0, "1 2", "3 4", 1}, {0, "1", "2", 1}, {0, "1 2 3 4", "5", 1}, {0, "1 2 3", "", 1}, {0, "1", "2 3 4 5 6 7 8", 7},
		{3, "1", "2 3 4", 6}, {3, "1", "2 3 4 5 6", 8}, {3, "1", "2 3 4 5 6 7", 8}, {3, "1 2", "3 4", 4}, {3, "1 2 3", "4 5", 4},
		{7, "1", "2 3 4", 8}, {7, "1 2 3", "4", 8}, {7, "1", "2", 8},
		{8, "1", "2 3 4", 8}, {8, "1 2", "3 4", 8}, {8, "1 2 3", "4", 8}, {8, "1", "", 8},
	} {
		s := state(8, c.p, "11|12|"+c.b1+"|"+c.b2)
		for i, k := range s.B1 {
			to := s
			to.P, to.T2, to.B1 = c.want, list(k, 12), slices.Delete(slices.Clone(s.B1), i, i+1)
			change{s, toAdmit(k), to, ""}.hold(t)
		}
	}
}

// P17.1: Admit of a key that is in B2, with room: likewise P falls, to 0, and stays there.
func TestTargetFalls(t *testing.T) {
	for _, c := range []target{
		{8, "2 3 4", "1", 5}, {8, "3 4 5 6", "1 2", 6}, {8, "3 4 5 6 7", "1 2", 6}, {8, "3 4 5", "1 2", 7},
		{8, "3 4", "1 2", 7}, {8, "2", "1", 7}, {8, "5", "1 2 3 4", 7}, {8, "", "1 2 3", 7}, {8, "2 3 4 5 6 7 8", "1", 1},
		{5, "2 3 4", "1", 2}, {5, "2 3 4 5 6", "1", 0}, {5, "2 3 4 5 6 7", "1", 0}, {5, "3 4", "1 2", 4}, {5, "4 5", "1 2 3", 4},
		{1, "2 3 4", "1", 0}, {1, "4", "1 2 3", 0}, {1, "2", "1", 0},
		{0, "2 3 4", "1", 0}, {0, "3 4", "1 2", 0}, {0, "4", "1 2 3", 0}, {0, "", "1", 0},
	} {
		s := state(8, c.p, "11|12|"+c.b1+"|"+c.b2)
		for i, k := range s.B2 {
			to := s
			to.P, to.T2, to.B2 = c.want, list(k, 12), slices.Delete(slices.Clone(s.B2), i, i+1)
			change{s, toAdmit(k), to, ""}.hold(t)
		}
	}
}

// P17.1: Admit of a key that is in B1, without room: it is replaced by the target that it leads to, not again.
func TestAdmitOutOfB1(t *testing.T) {
	s := state(4, 0, "1 2|3 4|5 6|7 8")
	holdAll(t, []change{
		// T1 has more than P.
		{s, toAdmit(5), state(4, 1, "1|5 3 4|2 6|7 8"), "2"},
		{s, toAdmit(6), state(4, 1, "1|6 3 4|2 5|7 8"), "2"},
		{state(6, 0, "1 2 0|4 5 g|6|7 8"), toAdmit(6), state(6, 2, "1 2|6 4 5 g|0|7 8"), "0"},
		// It has just P.
		{state(4, 1, "1 2|3 4|5 6|7 8"), toAdmit(5), state(4, 2, "1 2|5 3|6|4 7 8"), "4"},
		{state(3, 0, "1 2|3|4|5 6"), toAdmit(4), state(3, 2, "1 2|4||3 5 6"), "3"},
		{state(6, 0, "1 2 3|4 5 g|6|7 8 0"), toAdmit(6), state(6, 3, "1 2 3|6 4 5||g 7 8 0"), "g"},
		// It has less than P.
		{state(4, 4, "1 2|3 4|5 6|7 8"), toAdmit(5), state(4, 4, "1 2|5 3|6|4 7 8"), "4"},
		{state(4, 2, "1|3 4 5|6 7|8 9"), toAdmit(7), state(4, 3, "1|7 3 4|6|5 8 9"), "5"},
		{state(2, 2, "1|2|g|"), toAdmit(greatest), state(2, 2, "1|g||2"), "2"},
		// It has none.
		{state(2, 0, "|1 2|0|3"), toAdmit(0), state(2, 1, "|0 1||2 3"), "2"},
		{state(1, 0, "|1|2|"), toAdmit(2), state(1, 1, "|2||1"), "1"},
		{state(1, 1, "|g|0|"), toAdmit(0), state(1, 1, "|0||g"), "g"},
	})
}

// P17.1: Admit of a key that is in B2, without room: it is replaced by the target that it leads to, again.
func TestAdmitOutOfB2(t *testing.T) {
	holdAll(t, []change{
		// T1 has less than P.
		{state(4, 4, "1 2|3 4|5 6|7 8"), toAdmit(7), state(4, 3, "1 2|7 3|5 6|4 8"), "4"},
		{state(6, 6, "1 2|4 5 g 3|6 7 8|0"), toAdmit(0), state(6, 3, "1 2|0 4 5 g|6 7 8|3"), "3"},
		// It has just P.
		{state(4, 3, "1 2|3 4|5 6|7 8"), toAdmit(8), state(4, 2, "1|8 3 4|2 5 6|7"), "2"},
		{state(6, 6, "1 2 3|4 5 g|6 7 8|0"), toAdmit(0), state(6, 3, "1 2|0 4 5 g|3 6 7 8|"), "3"},
		// It has more than P.
		{state(4, 2, "1 2|3 4|5 6|7 8"), toAdmit(7), state(4, 1, "1|7 3 4|2 5 6|8"), "2"},
		{state(4, 0, "1 2|3 4|5 6|7 8"), toAdmit(8), state(4, 0, "1|8 3 4|2 5 6|7"), "2"},
		// It has none: just P, or less.
		{state(2, 0, "|1 2||3 4"), toAdmit(4), state(2, 0, "|4 1||2 3"), "2"},
		{state(2, 1, "|1 2|0|3"), toAdmit(3), state(2, 0, "|3 1|0|2"), "2"},
		{state(2, 2, "|1 2|0|g"), toAdmit(greatest), state(2, 1, "|g 1|0|2"), "2"},
		{state(1, 0, "|1||2"), toAdmit(2), state(1, 0, "|2||1"), "1"},
		// T2 has none.
		{state(2, 2, "1 2|||3 4"), toAdmit(3), state(2, 1, "1|3|2|4"), "2"},
		{state(3, 0, "1 2 3|||4 5 0"), toAdmit(5), state(3, 0, "1 2|5|3|4 0"), "3"},
		{state(1, 1, "0|||g"), toAdmit(greatest), state(1, 0, "|g|0|"), "0"},
	})
}

// P17.1: Admit of a key that is nowhere, with room: nothing is evicted, but B1 loses a key where T1 has no room for one more beside it.
func TestAdmitWithRoom(t *testing.T) {
	holdAll(t, []change{
		{state(1, 0, "|||"), toAdmit(0), state(1, 0, "0|||"), ""},
		{state(1, 0, "|||"), toAdmit(greatest), state(1, 0, "g|||"), ""},
		{state(1048576, 2, "1|2|3|4"), toAdmit(0), state(1048576, 2, "0 1|2|3|4"), ""},
		{state(6, 2, "1|2|3|4"), toAdmit(5), state(6, 2, "5 1|2|3|4"), ""},
		{state(4, 2, "1|2|3|4"), toAdmit(5), state(4, 2, "5 1|2|3|4"), ""},
		{state(3, 2, "1|2|3|4"), toAdmit(5), state(3, 2, "5 1|2|3|4"), ""},
		{state(2, 0, "1|||"), toAdmit(0), state(2, 0, "0 1|||"), ""},
		{state(2, 0, "|1||2 3"), toAdmit(0), state(2, 0, "0|1||2 3"), ""},
		{state(3, 3, "||1|2 3"), toAdmit(0), state(3, 3, "0||1|2 3"), ""},
		{state(4, 2, "1|2|3 4 5|6"), toAdmit(7), state(4, 2, "7 1|2|3 4|6"), ""},
		{state(4, 0, "1 2|3|4 5|6 0"), toAdmit(7), state(4, 0, "7 1 2|3|4|6 0"), ""},
		{state(2, 1, "||1 0|"), toAdmit(7), state(2, 1, "7||1|"), ""},
	})
}

// P17.1: Admit of a key that is nowhere, where T1 and B1 have the capacity together, with keys in B1 and with none: without any, T1 has all of it, and what is evicted isn't remembered.
func TestAdmitWhereT1AndB1AreFull(t *testing.T) {
	holdAll(t, []change{
		{state(4, 1, "1 2|3 4|5 6|7 8"), toAdmit(9), state(4, 1, "9 1|3 4|2 5|7 8"), "2"},
		{state(4, 1, "1 2|3 4|5 6|"), toAdmit(9), state(4, 1, "9 1|3 4|2 5|"), "2"},
		{state(4, 2, "1 2|3 4|5 6|7 8"), toAdmit(9), state(4, 2, "9 1 2|3|5|4 7 8"), "4"},
		{state(4, 3, "1 2|3 4|5 6|7 8"), toAdmit(9), state(4, 3, "9 1 2|3|5|4 7 8"), "4"},
		{state(4, 0, "1 2 3|4|5|6 7"), toAdmit(9), state(4, 0, "9 1 2|4|3|6 7"), "3"},
		{state(2, 0, "|1 2|3 4|"), toAdmit(5), state(2, 0, "5|1|3|2"), "2"},
		{state(1, 0, "|0|g|"), toAdmit(5), state(1, 0, "5|||0"), "0"},
		{state(2, 0, "1 2|||"), toAdmit(3), state(2, 0, "3 1|||"), "2"},
		{state(2, 2, "1 2|||3 4"), toAdmit(5), state(2, 2, "5 1|||3 4"), "2"},
		{state(3, 1, "1 2 g|||4"), toAdmit(5), state(3, 1, "5 1 2|||4"), "g"},
		{state(1, 1, "0|||"), toAdmit(greatest), state(1, 1, "g|||"), "0"},
		{state(1, 0, "0|||5"), toAdmit(greatest), state(1, 0, "g|||5"), "0"},
	})
}

// P17.1: Admit of a key that is nowhere, where T1 and B1 have less than the capacity together, and all lists as many, more, and twice as many: then B2 loses a key.
func TestAdmitWhereT1AndB1AreNot(t *testing.T) {
	holdAll(t, []change{
		// As many: none is remembered.
		{state(3, 0, "1|2 3||"), toAdmit(4), state(3, 0, "4|2 3|1|"), "1"},
		{state(3, 1, "1|2 3||"), toAdmit(4), state(3, 1, "4 1|2||3"), "3"},
		{state(3, 2, "1|2 3||"), toAdmit(4), state(3, 2, "4 1|2||3"), "3"},
		{state(2, 0, "|1 2||"), toAdmit(3), state(2, 0, "3|1||2"), "2"},
		{state(1, 0, "|1||"), toAdmit(2), state(1, 0, "2|||1"), "1"},
		// More, with keys in B2 and with none.
		{state(3, 0, "1|2 3|4|5"), toAdmit(6), state(3, 0, "6|2 3|1 4|5"), "1"},
		{state(3, 0, "1|2 3|4|"), toAdmit(6), state(3, 0, "6|2 3|1 4|"), "1"},
		{state(3, 1, "1|2 3||4 5"), toAdmit(6), state(3, 1, "6 1|2||3 4 5"), "3"},
		{state(2, 1, "|1 2|3|"), toAdmit(4), state(2, 1, "4|1|3|2"), "2"},
		// One less than twice as many, and twice as many.
		{state(2, 1, "|1 2||3"), toAdmit(4), state(2, 1, "4|1||2 3"), "2"},
		{state(2, 0, "|1 2||3 4"), toAdmit(5), state(2, 0, "5|1||2 3"), "2"},
		{state(3, 1, "1|2 3||4 5 0"), toAdmit(6), state(3, 1, "6 1|2||3 4 5"), "3"},
		{state(3, 0, "1|2 3||4 5 0"), toAdmit(6), state(3, 0, "6|2 3|1|4 5"), "1"},
		{state(3, 0, "1|2 3|4|5 6"), toAdmit(7), state(3, 0, "7|2 3|1 4|5"), "1"},
		{state(1, 1, "|g||0"), toAdmit(1), state(1, 1, "1|||g"), "g"},
	})
}

// act is a step of a script that is written out, and what is evicted, and the state, behind it.
type act struct {
	p       step
	evicted string
	to      arc.State
}

// play holds a Cache against a script.
func play(t *testing.T, x *Cache, acts []act) {
	t.Helper()
	for _, a := range acts {
		same(t, a.p.String()+", evicted", a.p.do(x), keys(a.evicted))
		has(t, a.p.String(), x, a.to)
	}
}

// P17.1: a key that is admitted again behind its eviction, out of T1 or T2, by an Admit or a Resize, comes to T2, and moves the target.
func TestAdmittedAgainBehindItsEviction(t *testing.T) {
	play(t, New(2), []act{
		{toAdmit(0), "", state(2, 0, "0|||")},
		{toTouch(0), "", state(2, 0, "|0||")},
		{toAdmit(greatest), "", state(2, 0, "g|0||")},
		{toAdmit(1), "g", state(2, 0, "1|0|g|")},
		{toAdmit(greatest), "0", state(2, 1, "1|g||0")},
		{toAdmit(0), "1", state(2, 0, "|0 g|1|")},
		{toAdmit(1), "g", state(2, 1, "|1 0||g")},
		{toTouch(0), "", state(2, 1, "|0 1||g")},
		{toAdmit(greatest), "1", state(2, 0, "|g 0||1")},
		{toAdmit(2), "0", state(2, 0, "2|g||0 1")},
		{toAdmit(0), "2", state(2, 0, "|0 g|2|1")},
	})
	play(t, cache(state(4, 1, "3 2|1 0||")), []act{
		{toResize(2), "2 0", state(2, 1, "3|1|2|0")},
		{toAdmit(0), "3", state(2, 0, "|0 1|3 2|")},
		{toResize(3), "", state(3, 0, "|0 1|3 2|")},
		{toAdmit(2), "", state(3, 1, "|2 0 1|3|")},
		{toAdmit(3), "1", state(3, 2, "|3 2 0||1")},
	})
}

// P17.1: a key that is admitted again behind its being forgotten, out of T1, B1 or B2, by an Admit or a Resize, comes as a new one, and the target stays; so does one that differs from what is remembered in its upper bits alone.
func TestAdmittedAgainBehindItsForgetting(t *testing.T) {
	play(t, cache(state(4, 1, "1 2|3 4|5 6|7 8")), []act{
		{toAdmit(9), "2", state(4, 1, "9 1|3 4|2 5|7 8")},
		{toAdmit(6), "1", state(4, 1, "6 9|3 4|1 2|7 8")},
		{toAdmit(1<<32 | 1), "9", state(4, 1, "4294967297 6|3 4|9 1|7 8")},
		{toAdmit(1<<32 | 7), "6", state(4, 1, "4294967303 4294967297|3 4|6 9|7 8")},
	})
	play(t, cache(state(3, 1, "1|2 3||4 5 0")), []act{
		{toAdmit(6), "3", state(3, 1, "6 1|2||3 4 5")},
		{toAdmit(0), "1", state(3, 1, "0 6|2|1|3 4")},
	})
	play(t, New(2), []act{
		{toAdmit(1), "", state(2, 0, "1|||")},
		{toAdmit(2), "", state(2, 0, "2 1|||")},
		{toAdmit(3), "1", state(2, 0, "3 2|||")},
		{toAdmit(1), "2", state(2, 0, "1 3|||")},
	})
	play(t, cache(state(4, 2, "1|2|3 4 5|6")), []act{
		{toResize(3), "", state(3, 2, "1|2|3 4|6")},
		{toAdmit(5), "", state(3, 2, "5 1|2|3|6")},
		{toResize(1), "1 2", state(1, 1, "5|||2")},
		{toResize(4), "", state(4, 1, "5|||2")},
		{toAdmit(6), "", state(4, 1, "6 5|||2")},
		{toAdmit(1), "", state(4, 1, "1 6 5|||2")},
		{toAdmit(2), "", state(4, 0, "1 6 5|2||")},
	})
}

// P17.1: a key that is admitted again behind its Drop, out of whichever queue, comes as a new one.
func TestAdmittedAgainBehindItsDrop(t *testing.T) {
	play(t, cache(state(4, 1, "1 0|g 4|2 3|5 6")), []act{
		{toDrop(0), "", state(4, 1, "1|g 4|2 3|5 6")},
		{toAdmit(0), "", state(4, 1, "0 1|g 4|2 3|5 6")},
		{toDrop(greatest), "", state(4, 1, "0 1|4|2 3|5 6")},
		{toAdmit(greatest), "", state(4, 1, "g 0 1|4|2|5 6")},
		{toDrop(2), "", state(4, 1, "g 0 1|4||5 6")},
		{toTouch(2), "", state(4, 1, "g 0 1|4||5 6")},
		{toAdmit(2), "1", state(4, 1, "2 g 0|4|1|5 6")},
		{toDrop(6), "", state(4, 1, "2 g 0|4|1|5")},
		{toTouch(6), "", state(4, 1, "2 g 0|4|1|5")},
		{toAdmit(6), "0", state(4, 1, "6 2 g|4|0|5")},
	})
}

// P17.1: Drop of a key in each queue, in front, in between and behind, and of one in none; what is dropped isn't remembered, and makes room.
func TestDrop(t *testing.T) {
	s := state(7, 3, "1 2 0|4 5 g|6 7 8|9 10 11")
	all := []change{
		stays(s, toDrop(12)), stays(s, toDrop(1<<32|1)),
		stays(state(1, 0, "|||"), toDrop(0)), stays(state(1, 0, "|||"), toDrop(greatest)),
		{state(1, 1, "0|||"), toDrop(0), state(1, 1, "|||"), ""},
		{state(1, 1, "|0||"), toDrop(0), state(1, 1, "|||"), ""},
		{state(1, 1, "||0|"), toDrop(0), state(1, 1, "|||"), ""},
		{state(1, 1, "|||0"), toDrop(0), state(1, 1, "|||"), ""},
	}
	for text, k := range map[string]uint64{
		"2 0|4 5 g|6 7 8|9 10 11": 1, "1 0|4 5 g|6 7 8|9 10 11": 2, "1 2|4 5 g|6 7 8|9 10 11": 0,
		"1 2 0|5 g|6 7 8|9 10 11": 4, "1 2 0|4 g|6 7 8|9 10 11": 5, "1 2 0|4 5|6 7 8|9 10 11": greatest,
		"1 2 0|4 5 g|7 8|9 10 11": 6, "1 2 0|4 5 g|6 8|9 10 11": 7, "1 2 0|4 5 g|6 7|9 10 11": 8,
		"1 2 0|4 5 g|6 7 8|10 11": 9, "1 2 0|4 5 g|6 7 8|9 11": 10, "1 2 0|4 5 g|6 7 8|9 10": 11,
	} {
		all = append(all, change{s, toDrop(k), state(7, 3, text), ""})
	}
	for _, c := range all {
		c.hold(t)
		x := cache(c.from)
		for range 2 {
			x.Drop(c.p.k)
			x.Touch(c.p.k)
		}
		has(t, c.p.String()+", once more, and a Touch of it", x, c.to)
	}
	x := cache(state(4, 1, "1 2|3 4|5|6 7"))
	x.Drop(4)
	same(t, "Admit behind a Drop, evicted", x.Admit(9), nil)
	has(t, "Admit behind a Drop", x, state(4, 1, "9 1 2|3|5|6 7"))
}

// P17.1, P6: Resize to more, to the same, to less, to 1, below 1, and above the greatest one, with keys in all queues, and the target below the new capacity and above it: T1 is evicted down to it, T2 behind it; keys fall off B1 beside T1, and then off B2 beside B1.
func TestResize(t *testing.T) {
	const text = "1 2 3 4|5 6 7 8|11 12 13|14 15 16 17 g"
	s := state(8, 3, text)
	holdAll(t, []change{
		{s, toResize(math.MaxInt), state(1048576, 3, text), ""},
		{s, toResize(1048577), state(1048576, 3, text), ""},
		{s, toResize(1048576), state(1048576, 3, text), ""},
		{s, toResize(9), state(9, 3, text), ""},
		stays(s, toResize(8)),
		{s, toResize(7), state(7, 3, "1 2 3|5 6 7 8|4 11 12 13|14 15 16"), "4"},
		{s, toResize(6), state(6, 3, "1 2 3|5 6 7|4 11 12|8 14 15"), "4 8"},
		{s, toResize(5), state(5, 3, "1 2 3|5 6|4 11|7 8 14"), "4 8 7"},
		{s, toResize(4), state(4, 3, "1 2 3|5|4|6 7 8"), "4 8 7 6"},
		{s, toResize(3), state(3, 3, "1 2 3|||5 6 7"), "4 8 7 6 5"},
		{s, toResize(2), state(2, 2, "1 2|||5 6"), "4 3 8 7 6 5"},
		{s, toResize(1), state(1, 1, "1|||5"), "4 3 2 8 7 6 5"},
		{s, toResize(0), state(1, 1, "1|||5"), "4 3 2 8 7 6 5"},
		{s, toResize(-1), state(1, 1, "1|||5"), "4 3 2 8 7 6 5"},
		{s, toResize(math.MinInt), state(1, 1, "1|||5"), "4 3 2 8 7 6 5"},
	})
	x := cache(s)
	x.Resize(9)
	same(t, "Admit behind a Resize to more, evicted", x.Admit(9), nil)
	has(t, "Admit behind a Resize to more", x, state(9, 3, "9 "+text))
	same(t, "Resize to less, evicted", x.Resize(4), list(4, 3, 8, 7, 6))
	has(t, "Resize to less", x, state(4, 3, "9 1 2|5|3|6 7 8"))
	same(t, "Admit behind a Resize to less, evicted", x.Admit(7), list(2))
	has(t, "Admit behind a Resize to less", x, state(4, 2, "9 1|7 5|2 3|6 8"))
}

// P17.1, P6: Resize of states without a target, without keys in T1 or in T2, and where keys that are remembered fall alone.
func TestResizeOfOthers(t *testing.T) {
	none := state(8, 0, "1 2|3 4 5 6|7|8")
	remembered := state(8, 8, "1|2|3 4 5 6|7 8 9 10")
	holdAll(t, []change{
		{none, toResize(6), state(6, 0, "1 2|3 4 5 6|7|8"), ""},
		{none, toResize(5), state(5, 0, "1|3 4 5 6|2 7|8"), "2"},
		{none, toResize(4), state(4, 0, "|3 4 5 6|1 2 7|8"), "2 1"},
		{none, toResize(3), state(3, 0, "|3 4 5|1 2 7|"), "2 1 6"},
		{none, toResize(2), state(2, 0, "|3 4|1 2|"), "2 1 6 5"},
		{none, toResize(0), state(1, 0, "|3|1|"), "2 1 6 5 4"},
		{state(4, 4, "1 2 3 g|||5"), toResize(2), state(2, 2, "1 2|||5"), "g 3"},
		{state(4, 0, "0 2 3 4|||5 6"), toResize(1), state(1, 0, "0|||5"), "4 3 2"},
		{state(4, 2, "|1 2 3 4|5|6"), toResize(2), state(2, 2, "|1 2|5|3"), "4 3"},
		{state(4, 4, "1 2|3 4||"), toResize(3), state(3, 3, "1 2|3||4"), "4"},
		{remembered, toResize(7), state(7, 7, "1|2|3 4 5 6|7 8 9"), ""},
		{remembered, toResize(5), state(5, 5, "1|2|3 4 5 6|7"), ""},
		{remembered, toResize(4), state(4, 4, "1|2|3 4 5|7"), ""},
		{remembered, toResize(2), state(2, 2, "1|2|3|7"), ""},
		{state(8, 5, "||1 2 3|4 5 6"), toResize(4), state(4, 4, "||1 2 3|4"), ""},
		{state(8, 5, "||1 2 3|4 5 6"), toResize(2), state(2, 2, "||1 2|"), ""},
		{state(8, 1, "|||1 2 3 4 5"), toResize(3), state(3, 1, "|||1 2 3"), ""},
		{state(3, 0, "|||"), toResize(5), state(5, 0, "|||"), ""},
		{state(3, 2, "|||"), toResize(0), state(1, 1, "|||"), ""},
		stays(state(1, 1, "|g||0"), toResize(1)),
	})
}

// P17.2: a nil Cache does nothing, and tells nothing, whatever is handed in.
func TestNilCache(t *testing.T) {
	var x *Cache
	for range 2 {
		for _, p := range triedSteps(list(0, 1, 2, 1<<32, greatest)) {
			same(t, p.String(), p.do(x), nil)
			has(t, p.String(), x, arc.State{})
			if nodes, keys := x.Rooms(); nodes != 0 || keys != 0 {
				t.Errorf("%v, Rooms: %d, %d", p, nodes, keys)
			}
		}
	}
}

// The chapter's example, and those of chapter 11 and of the whole.
func TestExamples(t *testing.T) {
	play(t, New(1), []act{
		{toAdmit(1), "", state(1, 0, "1|||")},
		{toAdmit(2), "1", state(1, 0, "2|||")},
	})
	play(t, New(2), []act{
		{toAdmit(1), "", state(2, 0, "1|||")},
		{toAdmit(2), "", state(2, 0, "2 1|||")},
		{toTouch(1), "", state(2, 0, "2|1||")},
		{toAdmit(3), "2", state(2, 0, "3|1|2|")},
	})
}

// The chapter lists no other calls, and no fields: nobody can lay keys past the policy.
func TestNoOtherCalls(t *testing.T) {
	var names []string
	for m := range reflect.TypeFor[*Cache]().Methods() {
		names = append(names, m.Name)
	}
	want := []string{"Admit", "Drop", "Ghosts", "Has", "Keys", "Resize", "Rooms", "State", "Touch"}
	if !slices.Equal(names, want) {
		t.Errorf("%v", names)
	}
	for _, f := range reflect.VisibleFields(reflect.TypeFor[Cache]()) {
		if f.IsExported() {
			t.Errorf("field %s", f.Name)
		}
	}
}
