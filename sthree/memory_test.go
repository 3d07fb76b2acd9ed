package sthree

import (
	"fmt"
	"math"
	"math/rand/v2"
	"slices"
	"testing"

	"hopper/api"
)

// telling is what a call tells: a state's lists, and others.
type telling struct {
	items [][]Item
	keys  [][]uint64
}

func tellingOf(s State, others ...[]uint64) telling {
	return telling{[][]Item{s.Small, s.Main}, append([][]uint64{s.Ghost}, others...)}
}

// count is how many lists are told.
func (l telling) count() int { return len(l.items) + len(l.keys) }

// spoil writes one of the lists all over, and the room behind its last one.
func (l telling) spoil(at int) {
	if at < len(l.items) {
		overwrite(l.items[at], Item{mark, mark})
	} else {
		overwrite(l.keys[at-len(l.items)], mark)
	}
}

func overwrite[T any](l []T, with T) {
	l = l[:cap(l)]
	for i := range l {
		l[i] = with
	}
}

// cloned is a copy, that shares nothing.
func (l telling) cloned() telling {
	var c telling
	for _, list := range l.items {
		c.items = append(c.items, slices.Clone(list))
	}
	for _, list := range l.keys {
		c.keys = append(c.keys, slices.Clone(list))
	}
	return c
}

// whole is a copy with the room behind each list's last one.
func (l telling) whole() telling {
	var c telling
	for _, list := range l.items {
		c.items = append(c.items, slices.Clone(list[:cap(list)]))
	}
	for _, list := range l.keys {
		c.keys = append(c.keys, slices.Clone(list[:cap(list)]))
	}
	return c
}

// sameBut holds lists against others, but for one of them.
func (l telling) sameBut(other telling, but int) bool {
	for i := range l.items {
		if i != but && !slices.Equal(l.items[i], other.items[i]) {
			return false
		}
	}
	for i := range l.keys {
		if i+len(l.items) != but && !slices.Equal(l.keys[i], other.keys[i]) {
			return false
		}
	}
	return len(l.keys) == len(other.keys)
}

func (l telling) same(other telling) bool { return l.sameBut(other, -1) }

// roomy is a state whose lists have marks behind their last ones, as whoever hands one in may have others in that room.
func roomy(s State) State {
	marked := []Item{{mark, mark}, {mark, mark}, {mark, mark}}
	s.Small = append(slices.Clone(s.Small), marked...)[:len(s.Small)]
	s.Main = append(slices.Clone(s.Main), marked...)[:len(s.Main)]
	s.Ghost = append(slices.Clone(s.Ghost), mark, mark, mark)[:len(s.Ghost)]
	return s
}

// tellings are all calls that tell lists.
func tellings() map[string]func(s State) telling {
	all := map[string]func(s State) telling{
		"Keys": func(s State) telling { return telling{keys: [][]uint64{Keys(s)}} },
	}
	for _, p := range allSteps() {
		all[p.String()] = func(s State) telling { return tellingOf(p.do(s)) }
	}
	return all
}

// someStates are some of small capacities, and some in which much leaves, and goes round.
func someStates() []State {
	all := []State{
		state(4, "0:2 1:3", "4294967296:1 g:2", "5 6 7"), state(4, "0:1 1 4294967296:2 g:3", "", "5 6 7"),
		state(4, "", "0:1 1:2 4294967296:1 g:3", "5 6 7"), state(4, "0 1", "", "g"), state(20, "0", "1 g:1", "5 6 7 8"),
	}
	for i, s := range triedStates(2) {
		if i%20 == 0 {
			all = append(all, s)
		}
	}
	return all
}

// R3, R4: no call writes into a list that was handed in, or into the room behind it; a call tells the same once more.
func TestHandedInStays(t *testing.T) {
	calls := tellings()
	for _, s := range someStates() {
		in := roomy(s)
		whole := tellingOf(in).whole()
		for name, call := range calls {
			first := call(in).cloned()
			if !tellingOf(in).whole().same(whole) {
				t.Fatalf("%s of %d writes into it", name, s)
			}
			if !call(in).same(first) {
				t.Fatalf("%s of %d tells another one once more", name, s)
			}
		}
		Has(in, 1)
		Ghosts(in)
		if !tellingOf(in).whole().same(whole) {
			t.Fatalf("Has and Ghosts of %d write into it", s)
		}
	}
}

// R3: what is told shares nothing with what was handed in, and no two lists that are told share anything.
func TestNothingShared(t *testing.T) {
	calls := tellings()
	for _, s := range someStates() {
		for name, call := range calls {
			in := roomy(s)
			told := call(in)
			want := told.cloned()
			for i := range tellingOf(in).count() {
				tellingOf(in).spoil(i)
			}
			if !told.same(want) {
				t.Fatalf("%s of %d shares what was handed in", name, s)
			}
			for i := range told.count() {
				in = roomy(s)
				whole := tellingOf(in).whole()
				told = call(in)
				told.spoil(i)
				if !tellingOf(in).whole().same(whole) || !told.sameBut(want, i) {
					t.Fatalf("%s of %d: list %d that is told is shared", name, s, i)
				}
			}
		}
	}
}

// R3, R4: of a long script no state, and no list, that was told changes by what comes behind it.
func TestToldStays(t *testing.T) {
	r := rand.New(rand.NewPCG(3, 10))
	var told, want []telling
	keep := func(l telling) {
		told = append(told, l)
		want = append(want, l.cloned())
	}
	s := New(12)
	for range 600 {
		for range 3 { // of one state more than one other goes on
			next, evicted := someStep(r, 24).do(s)
			keep(tellingOf(next, evicted, Keys(next)))
		}
		s, _ = someStep(r, 24).do(s)
		keep(tellingOf(s))
	}
	for i := range told {
		if !told[i].same(want[i]) {
			t.Fatalf("told before: %d, not %d", told[i], want[i])
		}
	}
}

// R2: nil and empty are the same.
func TestNilIsEmpty(t *testing.T) {
	empty := State{C: 2, Small: []Item{}, Main: []Item{}, Ghost: list()}
	for name, call := range tellings() {
		if !call(empty).same(call(State{C: 2})) {
			t.Error(name)
		}
	}
}

// P1: a call ends, whatever it is given: of a capacity, or a Freq, that may not be, too.
func TestOddStatesEnd(t *testing.T) {
	for _, c := range []int{math.MinInt, math.MinInt / 2, -1, 0, 1, math.MaxInt} {
		for _, freq := range []int{math.MinInt, -1, 0, 4, math.MaxInt} {
			odd := itemsOf(run(1, 5), freq)
			for _, s := range []State{{C: c}, {c, odd, nil, run(6, 9)}, {c, nil, odd, run(1, 3)}, {c, odd, odd, run(1, 3)}} {
				for _, p := range allSteps() {
					next, _ := p.do(s)
					Keys(next)
					Ghosts(next)
				}
			}
		}
	}
}

// fullest is a state of the greatest capacity, with as much as there may be in each queue.
func fullest(small uint64, freq int) State {
	const most = api.MaxCapacity
	return State{most, itemsOf(run(1, small), 0), itemsOf(run(small+1, most), freq), run(most+1, 2*most-most/10)}
}

// holdLong is sameState and same that tell no lists, as they are long.
func holdLong(t *testing.T, what string, got, want State, evicted, wantEvicted []uint64) {
	t.Helper()
	if !sameLists(got, want) {
		t.Errorf("%s: another state", what)
	}
	if !slices.Equal(evicted, wantEvicted) {
		t.Errorf("%s: others are evicted", what)
	}
}

// P1, P10.1 to P10.4: with as many keys as there may be, each call ends soon; the target is 104857.
func TestGreatestCapacity(t *testing.T) {
	const most, target = api.MaxCapacity, 104857
	full := fullest(target, 0)
	if !Has(full, most) || Has(full, most+1) || Ghosts(full) != most-target || !slices.Equal(Keys(full), run(1, most)) {
		t.Error("Has, Keys, or Ghosts")
	}
	small, ghost := itemsOf(run(0, target-1), 0), append(run(target, target), full.Ghost[:most-target-1]...)
	s, evicted := Admit(full, 0)
	holdLong(t, "Admit", s, State{most, small, full.Main, ghost}, evicted, list(target))
	s, evicted = Admit(s, target)
	main, ghosts := append(items("104857"), full.Main...), append(list(target-1), ghost[1:]...)
	holdLong(t, "Admit of what is remembered", s, State{most, small[:target-1], main, ghosts}, evicted, list(target-1))
	s, evicted = Admit(s, 3*most)
	less := itemsOf(append(list(3*most), run(0, target-2)...), 0)
	holdLong(t, "Admit with less in Small than the target", s, State{most, less, main[:len(main)-1], ghosts}, evicted, list(most))
	s = Touch(full, most)
	if s.Main[len(s.Main)-1] != (Item{most, 1}) || s.Main[0].Freq != 0 || s.Small[0].Freq != 0 {
		t.Error("Touch")
	}
	s = Drop(full, 1)
	holdLong(t, "Drop", s, State{most, full.Small[1:], full.Main, full.Ghost}, nil, nil)
	s, evicted = Resize(full, math.MaxInt)
	holdLong(t, "Resize above the greatest one", s, full, evicted, nil)
}

// P1, P10.2, P6: as many keys as there may be are evicted, where all of Main goes round as often as it may.
func TestGreatestResizes(t *testing.T) {
	const most, half = api.MaxCapacity, api.MaxCapacity / 2
	for _, freq := range []int{0, 3} {
		full := fullest(half, freq)
		s, evicted := Resize(full, half)
		// Small has one less than the new target of 52428 then, and Main what is beyond.
		const stay = half/10 - 1
		goneSmall, goneMain := run(stay+1, half), run(half+half-stay+1, most)
		ghost := append(slices.Clone(goneSmall), full.Ghost...)[:half-half/10]
		slices.Reverse(goneSmall)
		slices.Reverse(goneMain)
		want := State{half, full.Small[:stay], itemsOf(run(half+1, most-stay), 0), ghost}
		holdLong(t, fmt.Sprint("Resize to a half, Freq ", freq), s, want, evicted, slices.Concat(goneSmall, goneMain))
		s, evicted = Resize(full, 0)
		want = State{1, nil, itemsOf(run(half+1, half+1), 0), nil}
		gone := slices.Concat(run(half+2, most), run(1, half))
		slices.Reverse(gone)
		holdLong(t, fmt.Sprint("Resize below 1, Freq ", freq), s, want, evicted, gone)
	}
}

// The document's example: of capacity 2, 1, 2, 3.
func TestExample(t *testing.T) {
	s := admitted(New(2), list(2, 1))
	s, evicted := Admit(s, 3)
	same(t, "evicted", evicted, list(1))
	sameState(t, "behind 3", s, written(2, "3 2", "", "1"))
}
