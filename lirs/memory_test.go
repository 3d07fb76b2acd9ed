package lirs

import (
	"fmt"
	"math"
	"math/rand/v2"
	"slices"
	"testing"

	"hopper/api"
)

// lists are all that a state has, or a call tells: items, and lists of keys.
type lists struct {
	items []Item
	keys  [][]uint64
}

// tellings are all calls that tell lists, with the lists that they tell.
func tellings(steps []step) map[string]func(s State) lists {
	all := map[string]func(s State) lists{
		"Keys": func(s State) lists { return lists{nil, [][]uint64{Keys(s)}} },
	}
	for _, p := range steps {
		all[p.String()] = func(s State) lists {
			next, evicted := p.do(s)
			return lists{next.S, [][]uint64{next.Q, evicted}}
		}
	}
	return all
}

// whole is a list with the room behind its last one.
func whole[T any](l []T) []T { return l[:cap(l)] }

// wholes are copies of a state's lists, with the room behind their last ones.
func wholes(s State) lists {
	return cloned(lists{whole(s.S), [][]uint64{whole(s.Q)}})
}

func cloned(l lists) lists {
	c := lists{items: slices.Clone(l.items)}
	for _, keys := range l.keys {
		c.keys = append(c.keys, slices.Clone(keys))
	}
	return c
}

func sameLists(a, b lists) bool {
	return slices.Equal(a.items, b.items) && slices.EqualFunc(a.keys, b.keys, slices.Equal)
}

// roomy is a state whose lists have marks behind their last ones, as whoever hands one in may have others in that room.
func roomy(s State) State {
	s.S = append(slices.Clone(s.S), of(Hot, list(mark, mark, mark))...)[:len(s.S)]
	s.Q = append(slices.Clone(s.Q), mark, mark, mark)[:len(s.Q)]
	return s
}

// spoil writes a list all over, and the room behind its last one.
func spoil[T any](l []T, with T) {
	for i := range whole(l) {
		whole(l)[i] = with
	}
}

func spoilItems(l []Item) { spoil(l, Item{mark, Hot}) }

func spoilKeys(l []uint64) { spoil(l, mark) }

// someStates are all small ones, and one in which much leaves.
func someStates() []State {
	return append(slices.Concat(shapes(1), shapes(2), shapes(3)), state(9, "1h 2c 0h 3c 4g mh 5g 6g 7h|3 8 2 9"))
}

// R3, R4: no call writes into a list that was handed in, or into the room behind it; a call tells the same once more.
func TestHandedInStays(t *testing.T) {
	for _, s := range someStates() {
		in := roomy(s)
		ahead := wholes(in)
		for name, call := range tellings(stepsOf(s)) {
			first := cloned(call(in))
			if !sameLists(wholes(in), ahead) {
				t.Fatalf("%s of %d writes into it", name, s)
			}
			if !sameLists(call(in), first) {
				t.Fatalf("%s of %d tells another one once more", name, s)
			}
		}
		Has(in, 1)
		Ghosts(in)
		if !sameLists(wholes(in), ahead) {
			t.Fatalf("Has and Ghosts of %d write into it", s)
		}
	}
}

// R3: what is told shares nothing with what was handed in, and no two lists that are told share anything.
func TestNothingShared(t *testing.T) {
	for _, s := range someStates() {
		for name, call := range tellings(stepsOf(s)) {
			in := roomy(s)
			told := call(in)
			want := cloned(told)
			spoilItems(in.S)
			spoilKeys(in.Q)
			if !sameLists(told, want) {
				t.Fatalf("%s of %d shares what was handed in", name, s)
			}
			for i := range told.keys {
				if !apart(call, roomy(s), want, i) {
					t.Fatalf("%s of %d: list %d of keys that is told is shared", name, s, i)
				}
			}
		}
	}
}

// apart tells whether a write into the items, and into one of the lists of keys, that a call tells leaves all others as they are, and what was handed in.
func apart(call func(s State) lists, in State, want lists, i int) bool {
	ahead := wholes(in)
	told := call(in)
	spoilItems(told.items)
	spoilKeys(told.keys[i])
	for j := range told.keys {
		if j != i && !slices.Equal(told.keys[j], want.keys[j]) {
			return false
		}
	}
	return sameLists(wholes(in), ahead)
}

// R3, R4: of a long script no state, and no list, that was told changes by what comes behind it.
func TestToldStays(t *testing.T) {
	r := rand.New(rand.NewPCG(3, 12))
	var told, want []lists
	keep := func(l lists) {
		told = append(told, l)
		want = append(want, cloned(l))
	}
	s := New(8)
	for range 600 {
		for range 3 { // of one state more than one other goes on
			next, evicted := someStep(r, 24).do(s)
			keep(lists{next.S, [][]uint64{next.Q, evicted, Keys(next)}})
		}
		s, _ = someStep(r, 24).do(s)
		keep(lists{s.S, [][]uint64{s.Q}})
	}
	if !slices.EqualFunc(told, want, sameLists) {
		t.Error("what was told before changed")
	}
}

// R2: nil and empty are the same.
func TestNilIsEmpty(t *testing.T) {
	empty := State{2, []Item{}, list()}
	for name, call := range tellings(stepsOf(empty)) {
		if !sameLists(call(empty), call(State{C: 2})) {
			t.Error(name)
		}
	}
}

// P1: a call ends, whatever it is given: of a capacity that may not be, of kinds that there aren't, of too many hot ones, and of keys that are twice, too.
func TestOddStatesEnd(t *testing.T) {
	for _, c := range []int{math.MinInt, math.MinInt + 1, -1, 0, 1, 3, 100, math.MaxInt} {
		for _, s := range []State{
			{C: c}, {C: c, Q: run(1, 5)}, {c, of(Hot, run(1, 5)), nil}, {c, of(Hot, run(1, 5)), run(1, 5)}, {c, of(Gone, run(1, 5)), run(6, 9)},
			{c, of(Cold, run(1, 5)), nil}, {c, of(Cold, list(1, 1, 1)), list(1, 1)}, {c, of(Hot, list(1, 1, 1)), list(1, 1)}, {c, of(-1, run(1, 5)), run(3, 9)},
			{c, of(math.MaxInt, run(1, 5)), nil}, {c, append(of(Hot, run(1, 5)), of(Gone, run(1, 5))...), run(5, 9)},
		} {
			for _, p := range stepsOf(State{1, of(Hot, run(1, 6)), run(9, 10)}) {
				next, _ := p.do(s)
				Keys(next)
				Ghosts(next)
			}
		}
	}
}

// holdLong is sameState and same that tell no lists, as they are long.
func holdLong(t *testing.T, what string, got, want State, evicted, wantEvicted []uint64) {
	t.Helper()
	if !equal(got, want) {
		t.Errorf("%s: another state", what)
	}
	if !slices.Equal(evicted, wantEvicted) {
		t.Errorf("%s: others are evicted", what)
	}
}

// What there may be at most, of the greatest capacity.
const (
	most    = api.MaxCapacity
	mostHot = most - 10485
)

// fullest is a state with all of that: the first hot one, those that are Cold, those that are Gone, and the other hot ones. Hot are those from 1 to mostHot, Cold those up to most, Gone those up to twice that.
func fullest() State {
	cold := run(mostHot+1, most)
	return State{most, slices.Concat(of(Hot, list(1)), of(Cold, backward(cold)), of(Gone, run(most+1, 2*most)), of(Hot, run(2, mostHot))), cold}
}

// P1, P12.1, P12.2, P12.4: with as many keys as there may be, each call ends soon.
func TestGreatestCapacity(t *testing.T) {
	full := fullest()
	cold := full.Q
	if !Has(full, 1) || !Has(full, mostHot) || !Has(full, most) || Has(full, most+1) || Has(full, 2*most) || Has(full, 0) || Ghosts(full) != most || !slices.Equal(Keys(full), run(1, most)) {
		t.Error("Has, Keys, or Ghosts")
	}
	s := Touch(full, mostHot)
	holdLong(t, "Touch of a hot one", s, State{most, append(of(Hot, list(mostHot)), full.S[:len(full.S)-1]...), cold}, nil, nil)
	s = Touch(full, most)
	want := State{most, append(of(Hot, list(most)), without(full.S, most)...), append(slices.Clone(cold[:len(cold)-1]), mostHot)}
	want.S = want.S[:len(want.S)-1]
	holdLong(t, "Touch of a cold one", s, want, nil, nil)
	s = Drop(full, 2*most)
	holdLong(t, "Drop", s, State{most, without(full.S, 2*most), cold}, nil, nil)
	s, evicted := Admit(full, 0)
	want = State{most, slices.Concat(of(Cold, list(0)), of(Hot, list(1)), of(Cold, backward(cold[1:])), of(Gone, cold[:1]), of(Gone, run(most+1, 2*most-1)), of(Hot, run(2, mostHot))), append(slices.Clone(cold[1:]), 0)}
	holdLong(t, "Admit", s, want, evicted, cold[:1])
	s, evicted = Admit(full, 2*most)
	want = State{most, slices.Concat(of(Hot, list(2*most)), of(Hot, list(1)), of(Cold, backward(cold[1:])), of(Gone, cold[:1]), of(Gone, run(most+1, 2*most-1)), of(Hot, run(2, mostHot-1))), append(slices.Clone(cold[1:]), mostHot)}
	holdLong(t, "Admit of one that is Gone", s, want, evicted, cold[:1])
}

// P12.2: how many hot ones there is room for, of the greatest capacity.
func TestGreatestRoom(t *testing.T) {
	s, _ := Admit(State{C: most, S: of(Hot, run(1, mostHot-1))}, 0)
	full := append(of(Hot, list(0)), of(Hot, run(1, mostHot-1))...)
	holdLong(t, "Admit to all but one", s, State{C: most, S: full}, nil, nil)
	s, _ = Admit(s, greatest)
	holdLong(t, "Admit to all", s, State{most, append(of(Cold, list(greatest)), full...), list(greatest)}, nil, nil)
}

// P1, P12.3, P6: as many keys as there may be are cooled, evicted and forgotten.
func TestGreatestResizes(t *testing.T) {
	const half, halfHot = most / 2, most/2 - 5242
	full := fullest()
	cold := full.Q
	s, evicted := Resize(full, math.MaxInt)
	holdLong(t, "Resize above the greatest one", s, full, evicted, nil)
	s, evicted = Resize(full, half)
	gone := slices.Concat(cold, backward(run(half+1, mostHot)))
	want := State{half, slices.Concat(of(Hot, list(1)), of(Gone, backward(cold)), of(Gone, run(most+1, 2*most))[:half-len(cold)], of(Hot, run(2, halfHot))), backward(run(halfHot+1, half))}
	holdLong(t, "Resize to a half", s, want, evicted, gone)
	for _, c := range []int{1, 0, math.MinInt} {
		s, evicted = Resize(full, c)
		holdLong(t, fmt.Sprint("Resize to ", c), s, State{1, nil, list(1)}, evicted, slices.Concat(cold, backward(run(2, mostHot))))
	}
}
