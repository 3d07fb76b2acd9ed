package arc

import (
	"fmt"
	"math"
	"math/rand/v2"
	"slices"
	"testing"

	"hopper/api"
)

// tellings are all calls that tell lists, with the lists that they tell.
func tellings(steps []step) map[string]func(s State) [][]uint64 {
	all := map[string]func(s State) [][]uint64{
		"Keys": func(s State) [][]uint64 { return [][]uint64{Keys(s)} },
	}
	for _, p := range steps {
		all[p.String()] = func(s State) [][]uint64 {
			next, evicted := p.do(s)
			return append(listsOf(next), evicted)
		}
	}
	return all
}

// wholes are copies of a state's lists, with the room behind their last keys.
func wholes(s State) [][]uint64 {
	var all [][]uint64
	for _, l := range listsOf(s) {
		all = append(all, slices.Clone(l[:cap(l)]))
	}
	return all
}

// clonedAll are copies of lists.
func clonedAll(lists [][]uint64) [][]uint64 {
	var c [][]uint64
	for _, l := range lists {
		c = append(c, slices.Clone(l))
	}
	return c
}

// sameLists holds lists against others.
func sameLists(a, b [][]uint64) bool { return slices.EqualFunc(a, b, slices.Equal) }

// roomy is a state whose lists have marks behind their last keys, as whoever hands one in may have others in that room.
func roomy(s State) State {
	room := func(l []uint64) []uint64 {
		return append(slices.Clone(l), mark, mark, mark)[:len(l)]
	}
	s.T1, s.T2, s.B1, s.B2 = room(s.T1), room(s.T2), room(s.B1), room(s.B2)
	return s
}

// spoil writes a list all over, and the room behind its last key.
func spoil(l []uint64) {
	l = l[:cap(l)]
	for i := range l {
		l[i] = mark
	}
}

// someStates are all small ones, and one in which much leaves.
func someStates() []State {
	return append(slices.Concat(shapes(1), shapes(2), shapes(3)), state(7, 3, "1 2 0|4 5 6 g|7 8 9|10 11 12 13"))
}

// R3, R4: no call writes into a list that was handed in, or into the room behind it; a call tells the same once more.
func TestHandedInStays(t *testing.T) {
	for _, s := range someStates() {
		in := roomy(s)
		whole := wholes(in)
		for name, call := range tellings(stepsOf(s)) {
			first := clonedAll(call(in))
			if !sameLists(wholes(in), whole) {
				t.Fatalf("%s of %d writes into it", name, s)
			}
			if !sameLists(call(in), first) {
				t.Fatalf("%s of %d tells another one once more", name, s)
			}
		}
		Has(in, 1)
		Ghosts(in)
		if !sameLists(wholes(in), whole) {
			t.Fatalf("Has and Ghosts of %d write into it", s)
		}
	}
}

// R3: what is told shares nothing with what was handed in, and no two lists that are told share anything.
func TestNothingShared(t *testing.T) {
	for _, s := range someStates() {
		for name, call := range tellings(stepsOf(s)) {
			in := roomy(s)
			told := call(in)
			want := clonedAll(told)
			for _, l := range listsOf(in) {
				spoil(l)
			}
			if !sameLists(told, want) {
				t.Fatalf("%s of %d shares what was handed in", name, s)
			}
			in = roomy(s)
			whole := wholes(in)
			told = call(in)
			for i := range told {
				spoil(told[i])
				if !sameLists(wholes(in), whole) || !sameLists(told[i+1:], want[i+1:]) {
					t.Fatalf("%s of %d: list %d that is told is shared", name, s, i)
				}
			}
		}
	}
}

// R3, R4: of a long script no state, and no list, that was told changes by what comes behind it.
func TestToldStays(t *testing.T) {
	r := rand.New(rand.NewPCG(3, 11))
	var told, want [][]uint64
	keep := func(lists ...[]uint64) {
		told = append(told, lists...)
		want = append(want, clonedAll(lists)...)
	}
	s := New(8)
	for range 600 {
		for range 3 { // of one state more than one other goes on
			next, evicted := someStep(r, 24).do(s)
			keep(listsOf(next)...)
			keep(evicted, Keys(next))
		}
		s, _ = someStep(r, 24).do(s)
		keep(listsOf(s)...)
	}
	if !sameLists(told, want) {
		t.Error("what was told before changed")
	}
}

// R2: nil and empty are the same.
func TestNilIsEmpty(t *testing.T) {
	empty := State{2, 1, list(), list(), list(), list()}
	for name, call := range tellings(stepsOf(empty)) {
		if !sameLists(call(empty), call(State{C: 2, P: 1})) {
			t.Error(name)
		}
	}
}

// P1: a call ends, whatever it is given: of a capacity, or a target, that may not be, and of lists that are too long, too.
func TestOddStatesEnd(t *testing.T) {
	odd := []int{math.MinInt, math.MinInt + 1, -1, 0, 1, 3, math.MaxInt}
	for _, c := range odd {
		for _, p := range odd {
			for _, s := range []State{
				{C: c, P: p}, {c, p, run(1, 5), nil, run(6, 9), run(10, 12)}, {c, p, nil, run(1, 5), run(6, 9), run(10, 12)},
				{c, p, run(1, 5), run(1, 5), run(1, 5), run(1, 5)}, {c, p, nil, nil, run(1, 5), run(1, 3)}, {c, p, run(1, 5), nil, nil, nil},
			} {
				for _, p := range stepsOf(State{1, 0, run(1, 6), run(9, 10), nil, nil}) {
					next, _ := p.do(s)
					Keys(next)
					Ghosts(next)
				}
			}
		}
	}
}

// holdLong is sameState and same that tell no lists, as they are long.
func holdLong(t *testing.T, what string, got, want State, evicted, wantEvicted []uint64) {
	t.Helper()
	if !equal(got, want) {
		t.Errorf("%s: another state", what)
	}
	if !slices.Equal(evicted, wantEvicted) {
		t.Errorf("%s: others are evicted", what)
	}
}

// fullest is a state of the greatest capacity, with as much as there may be, a half of the capacity in each list.
func fullest(p int) State {
	const most, half = api.MaxCapacity, api.MaxCapacity / 2
	return State{most, p, run(1, half), run(half+1, most), run(most+1, most+half), run(most+half+1, 2*most)}
}

// P1, P11.1, P11.2, P11.4: with as many keys as there may be, each call ends soon.
func TestGreatestCapacity(t *testing.T) {
	const most, half = api.MaxCapacity, api.MaxCapacity / 2
	full := fullest(half)
	if !Has(full, 1) || !Has(full, most) || Has(full, most+1) || Has(full, 2*most) || Ghosts(full) != most || !slices.Equal(Keys(full), run(1, most)) {
		t.Error("Has, Keys, or Ghosts")
	}
	s, evicted := Admit(full, 0)
	want := State{most, half, run(0, half), full.T2[:half-1], full.B1[:half-1], append(list(most), full.B2...)}
	holdLong(t, "Admit", s, want, evicted, list(most))
	s, evicted = Admit(full, most+half)
	want = State{most, half + 1, full.T1, append(list(most+half), full.T2[:half-1]...), full.B1[:half-1], append(list(most), full.B2...)}
	holdLong(t, "Admit out of B1", s, want, evicted, list(most))
	s, evicted = Admit(full, 2*most)
	want = State{most, half - 1, full.T1[:half-1], append(list(2*most), full.T2...), append(list(half), full.B1...), full.B2[:half-1]}
	holdLong(t, "Admit out of B2", s, want, evicted, list(half))
	s, evicted = Admit(State{most, 0, nil, run(1, most), nil, run(most+1, 2*most)}, 0)
	holdLong(t, "Admit with none in T1", s, State{most, 0, list(0), run(1, most-1), nil, run(most, 2*most-1)}, evicted, list(most))
	s, evicted = Admit(State{most, most, run(1, most), nil, nil, run(most+1, 2*most)}, 0)
	holdLong(t, "Admit with none in T2", s, State{most, most, run(0, most-1), nil, nil, run(most+1, 2*most)}, evicted, list(most))
	s = Touch(full, half)
	holdLong(t, "Touch", s, State{most, half, full.T1[:half-1], run(half, most), full.B1, full.B2}, nil, nil)
	s = Drop(full, 2*most)
	holdLong(t, "Drop", s, State{most, half, full.T1, full.T2, full.B1, full.B2[:half-1]}, nil, nil)
}

// P11.2: the target goes as far as the greatest capacity at once, and back.
func TestGreatestTarget(t *testing.T) {
	const most = api.MaxCapacity
	others := run(11, most+9)
	s, _ := Admit(State{most, 1, nil, nil, list(10), others}, 10)
	holdLong(t, "Admit out of B1", s, State{most, most, nil, list(10), nil, others}, nil, nil)
	s, _ = Admit(State{most, most - 1, nil, nil, others, list(10)}, 10)
	holdLong(t, "Admit out of B2", s, State{most, 0, nil, list(10), others, nil}, nil, nil)
}

// P1, P11.3, P6: as many keys as there may be are evicted, and fall, of targets that are below the new capacity, and above it.
func TestGreatestResizes(t *testing.T) {
	const most, half, quarter = api.MaxCapacity, api.MaxCapacity / 2, api.MaxCapacity / 4
	for _, p := range []int{0, quarter, most} {
		full := fullest(p)
		s, evicted := Resize(full, math.MaxInt)
		holdLong(t, fmt.Sprint("Resize above the greatest one, P ", p), s, full, evicted, nil)
		s, evicted = Resize(full, half)
		stay := min(p, half)
		want := State{half, stay, full.T1[:stay], full.T2[:half-stay], slices.Concat(full.T1[stay:], full.B1)[:half-stay], nil}
		want.B2 = slices.Concat(full.T2[half-stay:], full.B2)[:stay]
		gone1, gone2 := slices.Clone(full.T1[stay:]), slices.Clone(full.T2[half-stay:])
		slices.Reverse(gone1)
		slices.Reverse(gone2)
		holdLong(t, fmt.Sprint("Resize to a half, P ", p), s, want, evicted, slices.Concat(gone1, gone2))
	}
	s, evicted := Resize(fullest(0), 0)
	gone := slices.Concat(run(half+2, most), run(1, half))
	slices.Reverse(gone)
	holdLong(t, "Resize below 1, P 0", s, State{1, 0, nil, list(half + 1), list(1), nil}, evicted, gone)
	s, evicted = Resize(fullest(most), 0)
	gone = run(2, most)
	slices.Reverse(gone[:half-1])
	slices.Reverse(gone[half-1:])
	holdLong(t, "Resize below 1, P above it", s, State{1, 1, list(1), nil, nil, list(half + 1)}, evicted, gone)
}
