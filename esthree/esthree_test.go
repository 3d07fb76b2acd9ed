package esthree

import (
	"math"
	"reflect"
	"slices"
	"strconv"
	"strings"
	"testing"

	"hopper/sthree"
)

const greatest = math.MaxUint64

// mark begins the keys that tests use for themselves: no Cache of a test has one of them, but while it is built.
const mark = 0xdead0000

// list writes a list of keys shortly.
func list(keys ...uint64) []uint64 { return keys }

// run is a list of the keys from one on to another one, with both.
func run(from, to uint64) []uint64 {
	l := make([]uint64, to-from+1)
	for i := range l {
		l[i] = from + uint64(i)
	}
	return l
}

// items writes items shortly: "1 2:3" has the keys 1, of Freq 0, and 2, of Freq 3; "g" is the greatest key.
func items(text string) []sthree.Item {
	var l []sthree.Item
	for _, word := range strings.Fields(text) {
		key, freq, _ := strings.Cut(word, ":")
		it := sthree.Item{Key: greatest}
		if key != "g" {
			it.Key, _ = strconv.ParseUint(key, 10, 64)
		}
		it.Freq, _ = strconv.Atoi(freq)
		l = append(l, it)
	}
	return l
}

// itemsOf are items of keys, all with one Freq.
func itemsOf(keys []uint64, freq int) []sthree.Item {
	var l []sthree.Item
	for _, k := range keys {
		l = append(l, sthree.Item{Key: k, Freq: freq})
	}
	return l
}

// keysOf are items' keys.
func keysOf(l []sthree.Item) []uint64 {
	var keys []uint64
	for _, it := range l {
		keys = append(keys, it.Key)
	}
	return keys
}

// there are the keys of a state that are there.
func there(s sthree.State) []uint64 {
	return slices.Concat(keysOf(s.Small), keysOf(s.Main))
}

// state writes one of sthree's shortly.
func state(c int, small, main, ghost string) sthree.State {
	return sthree.State{C: c, Small: items(small), Main: items(main), Ghost: keysOf(items(ghost))}
}

// kind is one of the calls that change a Cache.
type kind int

const (
	touch kind = iota
	admit
	drop
	resize
)

// step is such a call, with its key, or its capacity.
type step struct {
	kind kind
	k    uint64
	c    int
}

func toTouch(k uint64) step { return step{kind: touch, k: k} }
func toAdmit(k uint64) step { return step{kind: admit, k: k} }
func toDrop(k uint64) step  { return step{kind: drop, k: k} }
func toResize(c int) step   { return step{kind: resize, c: c} }

func (p step) String() string {
	switch p.kind {
	case touch:
		return "Touch " + strconv.FormatUint(p.k, 10)
	case admit:
		return "Admit " + strconv.FormatUint(p.k, 10)
	case drop:
		return "Drop " + strconv.FormatUint(p.k, 10)
	}
	return "Resize " + strconv.Itoa(p.c)
}

// do takes a step of a Cache.
func (p step) do(x *Cache) []uint64 {
	switch p.kind {
	case touch:
		x.Touch(p.k)
	case admit:
		return x.Admit(p.k)
	case drop:
		x.Drop(p.k)
	case resize:
		return x.Resize(p.c)
	}
	return nil
}

// follow takes it from sthree's state.
func (p step) follow(s sthree.State) (sthree.State, []uint64) {
	switch p.kind {
	case touch:
		return sthree.Touch(s, p.k), nil
	case admit:
		return sthree.Admit(s, p.k)
	case drop:
		return sthree.Drop(s, p.k), nil
	}
	return sthree.Resize(s, p.c)
}

// backwards are Admits of a list's keys, the last one first.
func backwards(l []uint64) []step {
	var all []step
	for _, k := range slices.Backward(l) {
		all = append(all, toAdmit(k))
	}
	return all
}

// building is a capacity, and steps that lead from New of it to a state: keys that are to be remembered, or to come again, are evicted by others, which are dropped then.
func building(s sthree.State) (int, []step) {
	small, main := keysOf(s.Small), keysOf(s.Main)
	n := len(small) + len(main) + len(s.Ghost) + 1
	others := run(mark+1, mark+2*uint64(n))
	all := slices.Concat(backwards(main), backwards(s.Ghost), backwards(others))
	all = append(all, toResize(2*n))
	for _, k := range others {
		all = append(all, toDrop(k))
	}
	all = slices.Concat(all, backwards(main), backwards(small))
	for _, it := range slices.Concat(s.Small, s.Main) {
		for range it.Freq {
			all = append(all, toTouch(it.Key))
		}
	}
	return 4 * n, append(all, toResize(s.C))
}

// cache is one of a state, by calls.
func cache(s sthree.State) *Cache {
	c, steps := building(s)
	x := New(c)
	for _, p := range steps {
		p.do(x)
	}
	return x
}

func same(t *testing.T, what string, got, want []uint64) {
	t.Helper()
	if !slices.Equal(got, want) {
		t.Errorf("%s: %d, not %d", what, got, want)
	}
}

func equal(s, r sthree.State) bool {
	return s.C == r.C && slices.Equal(s.Small, r.Small) && slices.Equal(s.Main, r.Main) && slices.Equal(s.Ghost, r.Ghost)
}

// has holds what a Cache tells of itself against a state, written out.
func has(t *testing.T, what string, x *Cache, s sthree.State) {
	t.Helper()
	if got := x.State(); !equal(got, s) {
		t.Errorf("%s, State: %d, not %d", what, got, s)
	}
	keys := there(s)
	same(t, what+", Keys", x.Keys(), keys)
	if g := x.Ghosts(); g != len(s.Ghost) {
		t.Errorf("%s, Ghosts: %d, not %d", what, g, len(s.Ghost))
	}
	for _, k := range slices.Concat(list(0, 1, 2, 9, 1<<32, greatest, mark+1), keys, s.Ghost) {
		if x.Has(k) != slices.Contains(keys, k) {
			t.Errorf("%s, Has %d: %t", what, k, x.Has(k))
		}
	}
}

// change is what a step makes of a state, written out.
type change struct {
	from    sthree.State
	p       step
	to      sthree.State
	evicted []uint64
}

// hold holds a change against what a Cache makes of the state, and sthree.
func (c change) hold(t *testing.T) {
	t.Helper()
	what := c.p.String()
	x := cache(c.from)
	has(t, "ahead of "+what, x, c.from)
	same(t, what+", evicted", c.p.do(x), c.evicted)
	has(t, what, x, c.to)
	s, evicted := c.p.follow(c.from)
	if !equal(s, c.to) || !slices.Equal(evicted, c.evicted) {
		t.Errorf("sthree, %s: %d, and %d", what, s, evicted)
	}
}

// stays is a change that is none.
func stays(s sthree.State, p step) change { return change{s, p, s, nil} }

// P16.1: New, of capacities below 1, 1, 2, 3, 9, 10, 11, 20, the greatest one, and above it.
func TestNew(t *testing.T) {
	for _, c := range []struct{ c, want int }{
		{math.MinInt, 1}, {math.MinInt32, 1}, {-1, 1}, {0, 1}, {1, 1}, {2, 2}, {3, 3}, {9, 9}, {10, 10}, {11, 11}, {20, 20},
		{1048575, 1048575}, {1048576, 1048576}, {1048577, 1048576}, {1 << 32, 1048576}, {math.MaxInt, 1048576},
	} {
		has(t, "New", New(c.c), state(c.want, "", "", ""))
		if s := sthree.New(c.c); s.C != c.want {
			t.Errorf("sthree.New of %d: %d", c.c, s)
		}
	}
}

// P16.1: Touch of a key in Small and of one in Main (in front, in between, behind), with every Freq, of one that is remembered, and of one that isn't there: a key stays in its place.
func TestTouch(t *testing.T) {
	const small, main, ghost = "0 1:1 2:2 3:3", "g:3 5:2 6:1 7", "8 10"
	full := state(8, small, main, ghost)
	touched := func(k uint64, small, main string) change {
		return change{full, toTouch(k), state(8, small, main, ghost), nil}
	}
	for _, c := range []change{
		touched(0, "0:1 1:1 2:2 3:3", main),
		touched(1, "0 1:2 2:2 3:3", main),
		touched(2, "0 1:1 2:3 3:3", main),
		stays(full, toTouch(3)),
		stays(full, toTouch(greatest)),
		touched(5, small, "g:3 5:3 6:1 7"),
		touched(6, small, "g:3 5:2 6:2 7"),
		touched(7, small, "g:3 5:2 6:1 7:1"),
		stays(full, toTouch(8)), stays(full, toTouch(10)),
		stays(full, toTouch(9)), stays(full, toTouch(1<<32|7)),
		stays(state(2, "", "", ""), toTouch(0)),
		stays(state(2, "", "", ""), toTouch(greatest)),
		stays(state(2, "1", "", "0"), toTouch(0)),
		{state(1, "g", "", ""), toTouch(greatest), state(1, "g:1", "", ""), nil},
		{state(1, "", "0", ""), toTouch(0), state(1, "", "0:1", ""), nil},
	} {
		c.hold(t)
	}
}

// P16.1: Touch, again and again, of a key in Small, of one in Main, of one that is remembered, and of one that isn't there: a Freq comes to 3, and stays there.
func TestTouchesAddUp(t *testing.T) {
	x := cache(state(4, "5 0", "g 6", "7"))
	for _, freq := range []string{"1", "2", "3", "3", "3", "3"} {
		for _, k := range list(0, greatest, 7, 9) {
			x.Touch(k)
		}
		has(t, "touched", x, state(4, "5 0:"+freq, "g:"+freq+" 6", "7"))
	}
	same(t, "Admit of what was touched while it was remembered, evicted", x.Admit(7), list(5))
	has(t, "Admit of what was touched while it was remembered", x, state(4, "", "7 0 g:3 6", "5"))
}

// P16.1: Admit of a key that is there, in Small or in Main, where it stays in its place, with its Freq, with room and without.
func TestAdmitOfAKey(t *testing.T) {
	for _, s := range []sthree.State{
		state(9, "1:2 2 0:3", "7 8:1 g:2", "4 5"),
		state(6, "1:2 2 0:3", "7 8:1 g:2", "4 5"),
		state(1, "0:3", "", ""),
		state(1, "", "g", ""),
	} {
		for _, k := range there(s) {
			stays(s, toAdmit(k)).hold(t)
		}
	}
}

// P16.1: Admit with room: of a key that is nowhere, and of one that is remembered.
func TestAdmitWithRoom(t *testing.T) {
	for _, c := range []change{
		{state(1, "", "", ""), toAdmit(0), state(1, "0", "", ""), nil},
		{state(1048576, "1", "", ""), toAdmit(greatest), state(1048576, "g 1", "", ""), nil},
		{state(3, "1:3", "2:1", "4 5"), toAdmit(6), state(3, "6 1:3", "2:1", "4 5"), nil},
		{state(20, "1", "2 3", "4 5"), toAdmit(6), state(20, "6 1", "2 3", "4 5"), nil},
		{state(20, "1", "", "4 5"), toAdmit(6), state(20, "6 1", "", "4 5"), nil}, // less in Small than the target, and none in Main
		{state(2, "", "", "0"), toAdmit(0), state(2, "", "0", ""), nil},
		{state(6, "1 2:3", "5:2", "3 g 4"), toAdmit(greatest), state(6, "1 2:3", "g 5:2", "3 4"), nil},
		{state(6, "1 2:3", "5:2", "3 g 4"), toAdmit(3), state(6, "1 2:3", "3 5:2", "g 4"), nil},
		{state(6, "1 2:3", "5:2", "3 g 4"), toAdmit(4), state(6, "1 2:3", "4 5:2", "3 g"), nil},
	} {
		c.hold(t)
	}
}

// P16.1: Admit that evicts from Small, by the Freq of its last ones: one of 0 or 1 is evicted, and remembered; one of 2 or 3 goes to Main, with a Freq of 0, and the next one's turn comes.
func TestAdmitEvictsFromSmall(t *testing.T) {
	for _, c := range []change{
		// Nothing is remembered of capacity 1, one key of 2, two of 3.
		{state(1, "0", "", ""), toAdmit(1), state(1, "1", "", ""), list(0)},
		{state(1, "g:1", "", ""), toAdmit(0), state(1, "0", "", ""), list(greatest)},
		{state(2, "0 g", "", ""), toAdmit(1), state(2, "1 0", "", "g"), list(greatest)},
		{state(2, "1 2", "", "3"), toAdmit(4), state(2, "4 1", "", "2"), list(2)},
		{state(3, "1 2 3", "", "4"), toAdmit(5), state(3, "5 1 2", "", "3 4"), list(3)},
		{state(3, "1 2 3", "", "4 6"), toAdmit(5), state(3, "5 1 2", "", "3 4"), list(3)},
		// The last one's Freq.
		{state(4, "1 2", "8 9", "7"), toAdmit(6), state(4, "6 1", "8 9", "2 7"), list(2)},
		{state(4, "1 2:1", "8 9", "7"), toAdmit(6), state(4, "6 1", "8 9", "2 7"), list(2)},
		{state(4, "1 2:2", "8:3 9:3", "7"), toAdmit(6), state(4, "6", "2 8:3 9:3", "1 7"), list(1)},
		{state(4, "1 2:3", "8:3 9:3", "7"), toAdmit(6), state(4, "6", "2 8:3 9:3", "1 7"), list(1)},
		{state(5, "1:1 2:3 3:2 4:3", "9", ""), toAdmit(6), state(5, "6", "2 3 4 9", "1"), list(1)},
		{state(5, "5:3 1 2:2 3:3", "9", ""), toAdmit(6), state(5, "6 5:3", "2 3 9", "1"), list(1)},
		// Small has just the target, 1 up to 19 and 2 from 20 on, or more.
		{state(9, "1", "11 12 13 14 15 16 17 18", ""), toAdmit(6), state(9, "6", "11 12 13 14 15 16 17 18", "1"), list(1)},
		{state(10, "1", "11 12 13 14 15 16 17 18 19", ""), toAdmit(6), state(10, "6", "11 12 13 14 15 16 17 18 19", "1"), list(1)},
		{state(11, "1 2", "11 12 13 14 15 16 17 18 19", ""), toAdmit(6), state(11, "6 1", "11 12 13 14 15 16 17 18 19", "2"), list(2)},
	} {
		c.hold(t)
	}
}

// P16.1: Admit where all of Small go to Main: one of Main is evicted, be it of those that have just come, and isn't remembered.
func TestAdmitWhereAllOfSmallGoToMain(t *testing.T) {
	for _, c := range []change{
		{state(1, "0:2", "", ""), toAdmit(1), state(1, "1", "", ""), list(0)},
		{state(1, "g:3", "", ""), toAdmit(0), state(1, "0", "", ""), list(greatest)},
		{state(3, "1:2 2:3 3:2", "", "5"), toAdmit(6), state(3, "6", "1 2", "5"), list(3)},
		{state(4, "1:3 2:2", "8 9", "7"), toAdmit(6), state(4, "6", "1 2 8", "7"), list(9)},
		{state(4, "1:3 2:2", "8 9:1", "7"), toAdmit(6), state(4, "6", "9 1 2", "7"), list(8)},
		{state(4, "1:3 2:2", "8:1 9:2", "7"), toAdmit(6), state(4, "6", "8 9:1 1", "7"), list(2)},
		{state(4, "1:2", "8:1 9:3 0:2", "7 5"), toAdmit(5), state(4, "", "5 8 9:2 0:1", "7"), list(1)},
	} {
		c.hold(t)
	}
}

// P16.1: Admit that evicts from Main, where Small has less items than the target: one with a Freq above 0 goes to the front, with one less, and the next one's turn comes; what is evicted isn't remembered.
func TestAdmitEvictsFromMain(t *testing.T) {
	for _, c := range []change{
		{state(1, "", "0", ""), toAdmit(1), state(1, "1", "", ""), list(0)},
		{state(1, "", "g:3", ""), toAdmit(1), state(1, "1", "", ""), list(greatest)},
		{state(3, "", "1 2 3", "4"), toAdmit(5), state(3, "5", "1 2", "4"), list(3)},
		{state(3, "", "1 2 3:1", "4"), toAdmit(5), state(3, "5", "3 1", "4"), list(2)},
		{state(3, "", "1 2:2 3:1", "4"), toAdmit(5), state(3, "5", "2:1 3", "4"), list(1)},
		{state(3, "", "1:3 2 3:3", "4"), toAdmit(5), state(3, "5", "3:2 1:3", "4"), list(2)},
		{state(3, "", "1:1 2:1 3:1", "4"), toAdmit(5), state(3, "5", "1 2", "4"), list(3)},
		{state(3, "", "1:1 2:3 3:2", ""), toAdmit(5), state(3, "5", "2:1 3", ""), list(1)},
		{state(3, "", "1:3 2:3 3:3", "4"), toAdmit(5), state(3, "5", "1 2", "4"), list(3)},
		{state(4, "", "0:3 2:3 g:3 1:3", "5 6 7"), toAdmit(8), state(4, "8", "0 2 g", "5 6 7"), list(1)},
	} {
		c.hold(t)
	}
}

// P16.1: Admit of states where the target is more than 1: 2 from 20 on, and 3 from 30 on; Small has less items than it, just as many, and more.
func TestAdmitAroundTheTarget(t *testing.T) {
	of := func(c, small, main int, ghost ...uint64) sthree.State {
		return sthree.State{C: c, Small: itemsOf(run(1, 9)[:small], 1), Main: itemsOf(run(11, 60)[:main], 0), Ghost: ghost}
	}
	for _, c := range []struct {
		c, small  int
		fromSmall bool
	}{
		{19, 0, false}, {19, 1, true}, {19, 2, true},
		{20, 0, false}, {20, 1, false}, {20, 2, true}, {20, 3, true},
		{29, 1, false}, {29, 2, true}, {30, 2, false}, {30, 3, true}, {31, 2, false}, {31, 3, true},
	} {
		main := c.c - c.small
		from, to, evicted := of(c.c, c.small, main), of(c.c, c.small, main-1), list(uint64(10+main))
		if c.fromSmall {
			evicted = list(uint64(c.small))
			to = of(c.c, c.small-1, main, evicted...)
		}
		to.Small = append(items("9"), to.Small...)
		change{from, toAdmit(9), to, evicted}.hold(t)
	}
}

// P16.1: Admit of a key that is remembered, without room: it is forgotten ahead of what is evicted for it, which so finds a place in Ghost, and comes to the front of Main behind that, with a Freq of 0.
func TestAdmitOfAGhost(t *testing.T) {
	for _, c := range []change{
		{state(2, "1 2", "", "3"), toAdmit(3), state(2, "1", "3", "2"), list(2)},
		{state(2, "", "4:1 5", "3"), toAdmit(3), state(2, "", "3 4:1", ""), list(5)},
		{state(3, "1:1 2", "6", "3 4"), toAdmit(3), state(3, "1:1", "3 6", "2 4"), list(2)},
		{state(3, "1:1 2", "6", "3 4"), toAdmit(4), state(3, "1:1", "4 6", "2 3"), list(2)},
		{state(3, "1:1 2:2", "6", "3 4"), toAdmit(4), state(3, "", "4 2 6", "1 3"), list(1)},
		{state(4, "1 2 5 6", "", "0 7 g"), toAdmit(greatest), state(4, "1 2 5", "g", "6 0 7"), list(6)},
		{state(4, "", "1:3 2:1 5 6:1", "0 7 g"), toAdmit(0), state(4, "", "0 6 1:3 2:1", "7 g"), list(5)},
	} {
		c.hold(t)
	}
}

// act is a step of a script that is written out, and what is evicted, and the state, behind it.
type act struct {
	p       step
	evicted []uint64
	to      sthree.State
}

// play holds a Cache against a script.
func play(t *testing.T, x *Cache, acts []act) {
	t.Helper()
	for _, a := range acts {
		same(t, a.p.String()+", evicted", a.p.do(x), a.evicted)
		has(t, a.p.String(), x, a.to)
	}
}

// P16.1: a key that is admitted again behind its eviction, by an Admit or a Resize, comes to Main, and without the uses it had; what left Main isn't remembered.
func TestAdmittedAgainBehindItsEviction(t *testing.T) {
	play(t, New(2), []act{
		{toAdmit(0), nil, state(2, "0", "", "")},
		{toTouch(0), nil, state(2, "0:1", "", "")},
		{toAdmit(greatest), nil, state(2, "g 0:1", "", "")},
		{toAdmit(1), list(0), state(2, "1 g", "", "0")},
		{toAdmit(0), list(greatest), state(2, "1", "0", "g")},
		{toTouch(1), nil, state(2, "1:1", "0", "g")},
		{toTouch(1), nil, state(2, "1:2", "0", "g")},
		{toAdmit(greatest), list(0), state(2, "", "g 1", "")},
		{toAdmit(0), list(1), state(2, "0", "g", "")},
		{toAdmit(1), list(0), state(2, "1", "g", "0")},
	})
	play(t, cache(state(4, "3 2 1:1", "", "")), []act{
		{toResize(2), list(1), state(2, "3 2", "", "1")},
		{toAdmit(1), list(2), state(2, "3", "1", "2")},
		{toResize(3), nil, state(3, "3", "1", "2")},
		{toAdmit(2), nil, state(3, "3", "2 1", "")},
	})
}

// P16.1: a key that is admitted again behind its being forgotten, by an Admit or a Resize, comes as a new one; so does one that differs from what is remembered in its upper bits alone.
func TestAdmittedAgainBehindItsForgetting(t *testing.T) {
	play(t, New(2), []act{
		{toAdmit(1), nil, state(2, "1", "", "")},
		{toTouch(1), nil, state(2, "1:1", "", "")},
		{toAdmit(2), nil, state(2, "2 1:1", "", "")},
		{toAdmit(3), list(1), state(2, "3 2", "", "1")},
		{toAdmit(4), list(2), state(2, "4 3", "", "2")},
		{toAdmit(1), list(3), state(2, "1 4", "", "3")},
		{toAdmit(1<<32 | 3), list(4), state(2, "4294967299 1", "", "4")},
	})
	play(t, cache(state(4, "1 2", "", "3 4 5")), []act{
		{toResize(3), nil, state(3, "1 2", "", "3 4")},
		{toAdmit(5), nil, state(3, "5 1 2", "", "3 4")},
		{toResize(1), list(2, 1), state(1, "5", "", "")},
		{toResize(4), nil, state(4, "5", "", "")},
		{toAdmit(3), nil, state(4, "3 5", "", "")},
		{toAdmit(1), nil, state(4, "1 3 5", "", "")},
	})
}

// P16.1: a key that is admitted again behind its Drop, out of whichever queue, comes as a new one.
func TestAdmittedAgainBehindItsDrop(t *testing.T) {
	play(t, cache(state(4, "1 0:3", "g:2 4", "2 3")), []act{
		{toDrop(0), nil, state(4, "1", "g:2 4", "2 3")},
		{toAdmit(0), nil, state(4, "0 1", "g:2 4", "2 3")},
		{toDrop(3), nil, state(4, "0 1", "g:2 4", "2")},
		{toAdmit(3), list(1), state(4, "3 0", "g:2 4", "1 2")},
		{toDrop(greatest), nil, state(4, "3 0", "4", "1 2")},
		{toAdmit(greatest), nil, state(4, "g 3 0", "4", "1 2")},
		{toDrop(1), nil, state(4, "g 3 0", "4", "2")},
		{toTouch(1), nil, state(4, "g 3 0", "4", "2")},
		{toAdmit(1), list(0), state(4, "1 g 3", "4", "0 2")},
	})
}

// P16.1: keys fall off the back of Ghost above the room, the one that was evicted first as the first one; of capacity 1 nothing is remembered.
func TestGhostFalls(t *testing.T) {
	for _, c := range []struct{ c, room uint64 }{
		{1, 0}, {2, 1}, {3, 2}, {9, 8}, {10, 9}, {11, 10}, {19, 18}, {20, 18}, {21, 19}, {29, 27}, {30, 27}, {31, 28},
	} {
		x := New(int(c.c))
		for _, k := range slices.Backward(run(1, 99)) {
			x.Admit(k)
		}
		want := sthree.State{C: int(c.c), Small: itemsOf(run(1, c.c), 0), Ghost: run(c.c+1, c.c+1+c.room)[:c.room]}
		has(t, "many keys", x, want)
	}
}

// P16.1: Drop of a key in each queue, and of one in none; what is dropped isn't remembered, and makes room.
func TestDrop(t *testing.T) {
	const small, main, ghost = "0 1:1 2:3", "6:2 7 g:1", "3 4 5"
	s := state(6, small, main, ghost)
	dropped := func(k uint64, small, main, ghost string) change {
		return change{s, toDrop(k), state(6, small, main, ghost), nil}
	}
	for _, c := range []change{
		dropped(0, "1:1 2:3", main, ghost),
		dropped(1, "0 2:3", main, ghost),
		dropped(2, "0 1:1", main, ghost),
		dropped(6, small, "7 g:1", ghost),
		dropped(7, small, "6:2 g:1", ghost),
		dropped(greatest, small, "6:2 7", ghost),
		dropped(3, small, main, "4 5"),
		dropped(4, small, main, "3 5"),
		dropped(5, small, main, "3 4"),
		stays(s, toDrop(8)),
		stays(s, toDrop(1<<32|1)),
		stays(state(1, "", "", ""), toDrop(0)),
		stays(state(1, "", "", ""), toDrop(greatest)),
		{state(1, "0:2", "", ""), toDrop(0), state(1, "", "", ""), nil},
		{state(2, "", "", "0"), toDrop(0), state(2, "", "", ""), nil},
	} {
		c.hold(t)
		x := cache(c.from)
		for range 2 {
			x.Drop(c.p.k)
			x.Touch(c.p.k)
		}
		has(t, c.p.String()+", once more, and a Touch of it", x, c.to)
	}
	x := cache(s)
	x.Drop(7)
	same(t, "Admit behind a Drop, evicted", x.Admit(8), nil)
	has(t, "Admit behind a Drop", x, state(6, "8 0 1:1 2:3", "6:2 g:1", ghost))
}

// P16.1, P6: Resize to more, to the same, to less, to 1, below 1, and above the greatest one, with keys in all queues, and in some: Small is evicted while it has the new target, and Main behind it; what is remembered has the new room.
func TestResize(t *testing.T) {
	const small, main, ghost = "1 2:1 3:2 4", "5 6:1 7:3 0:2", "11 12 13 14 15 16 g"
	s := state(8, small, main, ghost)
	all := list(4, 2, 1, 5, 3, 6, 0)
	for _, c := range []change{
		{s, toResize(math.MaxInt), state(1048576, small, main, ghost), nil},
		{s, toResize(1048577), state(1048576, small, main, ghost), nil},
		{s, toResize(1048576), state(1048576, small, main, ghost), nil},
		{s, toResize(9), state(9, small, main, ghost), nil},
		stays(s, toResize(8)),
		{s, toResize(7), state(7, "1 2:1 3:2", main, "4 11 12 13 14 15"), all[:1]},
		{s, toResize(6), state(6, "1", "3 5 6:1 7:3 0:2", "2 4 11 12 13"), all[:2]},
		{s, toResize(5), state(5, "", "3 5 6:1 7:3 0:2", "1 2 4 11"), all[:3]},
		{s, toResize(4), state(4, "", "6 7:2 0:1 3", "1 2 4"), all[:4]},
		{s, toResize(3), state(3, "", "6 7:2 0:1", "1 2"), all[:5]},
		{s, toResize(2), state(2, "", "7:1 0", "1"), all[:6]},
		{s, toResize(1), state(1, "", "7:1", ""), all},
		{s, toResize(0), state(1, "", "7:1", ""), all},
		{s, toResize(math.MinInt), state(1, "", "7:1", ""), all},
		stays(state(9, "", "", "1 2 3 4 5 6 7 8"), toResize(9)),
		{state(9, "", "", "1 2 3 4 5 6 7 8"), toResize(4), state(4, "", "", "1 2 3"), nil}, // only Ghost has too many
		{state(9, "0", "9", "1 2 3 4 5 6 7 8"), toResize(2), state(2, "0", "9", "1"), nil},
		{state(9, "0", "", "1 2 3 4 5 6 7 8"), toResize(-1), state(1, "0", "", ""), nil},
		{state(3, "0 1 g", "", ""), toResize(1), state(1, "0", "", ""), list(greatest, 1)},
		{state(3, "0:2 1:3 g:2", "", ""), toResize(1), state(1, "", "0", ""), list(greatest, 1)},
		{state(3, "0:1 1:3 g:2", "", ""), toResize(2), state(2, "", "1 g", "0"), list(0)},
		{state(3, "", "0:3 1:3 g:3", "5 6"), toResize(1), state(1, "", "0", ""), list(greatest, 1)},
		{state(3, "", "", ""), toResize(5), state(5, "", "", ""), nil},
		{state(3, "", "", ""), toResize(0), state(1, "", "", ""), nil},
		stays(state(1, "g:3", "", ""), toResize(1)),
	} {
		c.hold(t)
	}
	x := cache(s)
	x.Resize(9)
	same(t, "Admit behind a Resize to more, evicted", x.Admit(17), nil)
	has(t, "Admit behind a Resize to more", x, state(9, "17 "+small, main, ghost))
	same(t, "Resize to less, evicted", x.Resize(4), list(4, 2, 1, 17, 5))
	same(t, "Admit behind a Resize to less, evicted", x.Admit(2), list(3))
	has(t, "Admit behind a Resize to less", x, state(4, "", "2 6 7:2 0:1", "17 1"))
}

// P16.1, P6: Resize of states where the old target, and the old room, are others than the new ones.
func TestResizeTargets(t *testing.T) {
	s := sthree.State{C: 40, Small: itemsOf(run(1, 6), 0), Main: itemsOf(run(11, 34), 0), Ghost: run(41, 76)}
	gone := list(6, 5, 4, 3, 2) // down to 1 of Small: 20 to 29 have the target 2
	for _, c := range []struct {
		c           int
		small, main int
		evicted     []uint64
	}{
		{30, 6, 24, nil},
		{29, 5, 24, gone[:1]},
		{28, 4, 24, gone[:2]},
		{25, 1, 24, gone},
		{24, 1, 23, append(gone[:5:5], 34)},
		{20, 1, 19, append(gone[:5:5], 34, 33, 32, 31, 30)},
		{19, 0, 19, append(gone[:5:5], 1, 34, 33, 32, 31, 30)}, // the target is 1: the last of Small goes, too
	} {
		ghosts := slices.Concat(run(uint64(c.small)+1, 6)[:6-c.small], s.Ghost)
		room := c.c - max(c.c/10, 1)
		to := sthree.State{C: c.c, Small: s.Small[:c.small], Main: s.Main[:c.main], Ghost: ghosts[:min(room, len(ghosts))]}
		change{s, toResize(c.c), to, c.evicted}.hold(t)
	}
}

// P16.2: a nil Cache does nothing, and tells nothing, whatever is handed in.
func TestNilCache(t *testing.T) {
	var x *Cache
	for range 2 {
		for _, p := range triedSteps(list(0, 1, 2, 1<<32, greatest)) {
			same(t, p.String(), p.do(x), nil)
			has(t, p.String(), x, sthree.State{})
			if nodes, keys := x.Rooms(); nodes != 0 || keys != 0 {
				t.Errorf("%v, Rooms: %d, %d", p, nodes, keys)
			}
		}
	}
}

// The chapter's example, and that of chapter 10.
func TestExamples(t *testing.T) {
	play(t, New(1), []act{
		{toAdmit(1), nil, state(1, "1", "", "")},
		{toAdmit(2), list(1), state(1, "2", "", "")},
	})
	play(t, New(2), []act{
		{toAdmit(1), nil, state(2, "1", "", "")},
		{toAdmit(2), nil, state(2, "2 1", "", "")},
		{toAdmit(3), list(1), state(2, "3 2", "", "1")},
	})
}

// The chapter lists no other calls, and no fields: nobody can lay keys past the policy.
func TestNoOtherCalls(t *testing.T) {
	var names []string
	for m := range reflect.TypeFor[*Cache]().Methods() {
		names = append(names, m.Name)
	}
	want := []string{"Admit", "Drop", "Ghosts", "Has", "Keys", "Resize", "Rooms", "State", "Touch"}
	if !slices.Equal(names, want) {
		t.Errorf("%v", names)
	}
	for _, f := range reflect.VisibleFields(reflect.TypeFor[Cache]()) {
		if f.IsExported() {
			t.Errorf("field %s", f.Name)
		}
	}
}
