package sthree

import (
	"fmt"
	"math"
	"math/rand/v2"
	"slices"
	"strconv"
	"strings"
	"testing"
)

const greatest = math.MaxUint64

// mark is what a test writes over lists: no list of a test has it as a key, nor one of those above it.
const mark = 0xdead0000

// list writes a list of keys shortly.
func list(keys ...uint64) []uint64 { return keys }

// run is a list of the keys from one on to another one, with both.
func run(from, to uint64) []uint64 {
	l := make([]uint64, to-from+1)
	for i := range l {
		l[i] = from + uint64(i)
	}
	return l
}

// items writes items shortly: "1 2:3" has the keys 1, of Freq 0, and 2, of Freq 3; "g" is the greatest key.
func items(text string) []Item {
	var l []Item
	for _, word := range strings.Fields(text) {
		key, freq, _ := strings.Cut(word, ":")
		it := Item{Key: greatest}
		if key != "g" {
			it.Key, _ = strconv.ParseUint(key, 10, 64)
		}
		it.Freq, _ = strconv.Atoi(freq)
		l = append(l, it)
	}
	return l
}

// keysOf are items' keys.
func keysOf(l []Item) []uint64 {
	var keys []uint64
	for _, it := range l {
		keys = append(keys, it.Key)
	}
	return keys
}

// itemsOf are items of keys, all with one Freq.
func itemsOf(keys []uint64, freq int) []Item {
	l := make([]Item, len(keys))
	for i, k := range keys {
		l[i] = Item{k, freq}
	}
	return l
}

// written is a state, its lists written shortly.
func written(c int, small, main, ghost string) State {
	return State{C: c, Small: items(small), Main: items(main), Ghost: keysOf(items(ghost))}
}

// admitted has a list's keys admitted, so that its first one comes last.
func admitted(s State, l []uint64) State {
	for _, k := range slices.Backward(l) {
		s, _ = Admit(s, k)
	}
	return s
}

// touched has each of the items touched as often as its Freq tells.
func touched(s State, l []Item) State {
	for _, it := range l {
		for range it.Freq {
			s = Touch(s, it.Key)
		}
	}
	return s
}

// state is the one of a capacity with just these lists, by calls: keys that are to be remembered, or to be in Main, are evicted by others, which are dropped then.
func state(c int, small, main, ghost string) State {
	want := written(c, small, main, ghost)
	inSmall, inMain := keysOf(want.Small), keysOf(want.Main)
	n := len(inSmall) + len(inMain) + len(want.Ghost) + 1
	s := admitted(New(4*n), slices.Concat(want.Ghost, inMain))
	others := run(mark+1, mark+2*uint64(n))
	s, _ = Resize(admitted(s, others), 2*n)
	for _, k := range others {
		s = Drop(s, k)
	}
	s = touched(admitted(admitted(s, inMain), inSmall), slices.Concat(want.Small, want.Main))
	s, _ = Resize(s, c)
	return s
}

// The lists of a model.
const (
	inSmall = iota
	inMain
	inGhost
)

// place is where a model has a key, when it was put to the front there, and how often it was used.
type place struct{ list, at, freq int }

// model is the policy told plainly, key by key, without a list: each key has a place.
type model struct {
	c, now int
	places map[uint64]place
}

func newModel(c int) *model {
	return &model{c: inBounds(c), places: map[uint64]place{}}
}

func inBounds(c int) int {
	if c < 1 {
		return 1
	}
	if c > 1048576 {
		return 1048576
	}
	return c
}

func (m *model) put(list int, k uint64, freq int) {
	m.now++
	m.places[k] = place{list, m.now, freq}
}

// items are those of a list, the one put last first.
func (m *model) items(list int) []Item {
	var l []Item
	for k, p := range m.places {
		if p.list == list {
			l = append(l, Item{k, p.freq})
		}
	}
	slices.SortFunc(l, func(a, b Item) int { return m.places[b.Key].at - m.places[a.Key].at })
	return l
}

func (m *model) count(list int) int {
	n := 0
	for _, p := range m.places {
		if p.list == list {
			n++
		}
	}
	return n
}

// last is the item that was put to a list's front ahead of all others there.
func (m *model) last(list int) Item {
	var last Item
	at := math.MaxInt
	for k, p := range m.places {
		if p.list == list && p.at < at {
			last, at = Item{k, p.freq}, p.at
		}
	}
	return last
}

func (m *model) isIn(list int, k uint64) bool {
	p, ok := m.places[k]
	return ok && p.list == list
}

func (m *model) has(k uint64) bool { return m.isIn(inSmall, k) || m.isIn(inMain, k) }

func (m *model) target() int {
	if m.c < 10 {
		return 1
	}
	return m.c / 10
}

// fall takes what is too much off the back of Ghost.
func (m *model) fall() {
	for m.count(inGhost) > m.c-m.target() {
		delete(m.places, m.last(inGhost).Key)
	}
}

func (m *model) fromMain() uint64 {
	for {
		it := m.last(inMain)
		if it.Freq == 0 {
			delete(m.places, it.Key)
			return it.Key
		}
		m.put(inMain, it.Key, it.Freq-1)
	}
}

func (m *model) fromSmall() uint64 {
	for m.count(inSmall) > 0 {
		it := m.last(inSmall)
		if it.Freq < 2 {
			m.put(inGhost, it.Key, 0)
			m.fall()
			return it.Key
		}
		m.put(inMain, it.Key, 0)
	}
	return m.fromMain()
}

func (m *model) evict(most int) []uint64 {
	var evicted []uint64
	for m.count(inSmall)+m.count(inMain) > most {
		if m.count(inSmall) < m.target() && m.count(inMain) > 0 {
			evicted = append(evicted, m.fromMain())
		} else {
			evicted = append(evicted, m.fromSmall())
		}
	}
	return evicted
}

func (m *model) touch(k uint64) {
	p, ok := m.places[k]
	if ok && p.list != inGhost && p.freq < 3 {
		p.freq++
		m.places[k] = p
	}
}

func (m *model) admit(k uint64) []uint64 {
	if m.has(k) {
		return nil
	}
	list := inSmall
	if m.isIn(inGhost, k) {
		list = inMain
		delete(m.places, k)
	}
	evicted := m.evict(m.c - 1)
	m.put(list, k, 0)
	return evicted
}

// state is the model's, its lists written out.
func (m *model) state() State {
	return State{m.c, m.items(inSmall), m.items(inMain), keysOf(m.items(inGhost))}
}

// modelOf has a state's capacity, items and keys.
func modelOf(s State) *model {
	m := newModel(s.C)
	for list, l := range [][]Item{inSmall: s.Small, inMain: s.Main, inGhost: itemsOf(s.Ghost, 0)} {
		for _, it := range slices.Backward(l) {
			m.put(list, it.Key, it.Freq)
		}
	}
	return m
}

// kind is one of the calls that change a state.
type kind int

const (
	touch kind = iota
	admit
	drop
	resize
)

// step is such a call, with its key, or its capacity.
type step struct {
	kind kind
	k    uint64
	c    int
}

func (p step) String() string {
	if p.kind == resize {
		return "Resize " + strconv.Itoa(p.c)
	}
	return []string{"Touch ", "Admit ", "Drop "}[p.kind] + strconv.FormatUint(p.k, 10)
}

// do takes a step from a state.
func (p step) do(s State) (State, []uint64) {
	switch p.kind {
	case touch:
		return Touch(s, p.k), nil
	case admit:
		return Admit(s, p.k)
	case drop:
		return Drop(s, p.k), nil
	}
	return Resize(s, p.c)
}

// follow takes it in the model.
func (p step) follow(m *model) []uint64 {
	switch p.kind {
	case touch:
		m.touch(p.k)
	case admit:
		return m.admit(p.k)
	case drop:
		delete(m.places, p.k)
	case resize:
		m.c = inBounds(p.c)
		evicted := m.evict(m.c)
		m.fall()
		return evicted
	}
	return nil
}

// triedKeys are those that steps are tried with: some of them are there, some aren't, and 9 never is.
func triedKeys() []uint64 { return list(0, 1, 1<<32, greatest, 9) }

// triedSteps are all calls that change a state, with some keys and capacities.
func triedSteps(keys []uint64, capacities ...int) []step {
	var all []step
	for _, k := range keys {
		all = append(all, step{kind: touch, k: k}, step{kind: admit, k: k}, step{kind: drop, k: k})
	}
	for _, c := range capacities {
		all = append(all, step{kind: resize, c: c})
	}
	return all
}

// allSteps are those with all keys that are tried, and capacities of all sorts.
func allSteps() []step {
	return triedSteps(triedKeys(), math.MinInt, -1, 0, 1, 2, 3, 4, 10, 20, 1048576, 1048577, math.MaxInt)
}

// triedStates are all states of capacities from 1 on to another one that come of calls with keys that are tried, but for 9: they are gone through in the model, from step to step.
func triedStates(most int) []State {
	all := []State{newModel(most).state()}
	seen := map[string]bool{fmt.Sprint(all[0]): true}
	var capacities []int
	for c := range most {
		capacities = append(capacities, c+1)
	}
	steps := triedSteps(triedKeys()[:4], capacities...)
	for i := 0; i < len(all); i++ {
		for _, p := range steps {
			m := modelOf(all[i])
			p.follow(m)
			s := m.state()
			if text := fmt.Sprint(s); !seen[text] {
				seen[text] = true
				all = append(all, s)
			}
		}
	}
	return all
}

func same(t *testing.T, what string, got, want []uint64) {
	t.Helper()
	if !slices.Equal(got, want) {
		t.Errorf("%s: %d, not %d", what, got, want)
	}
}

// sameLists tells whether two states are the same.
func sameLists(a, b State) bool {
	return a.C == b.C && slices.Equal(a.Small, b.Small) && slices.Equal(a.Main, b.Main) && slices.Equal(a.Ghost, b.Ghost)
}

// sameState holds a state against another one.
func sameState(t *testing.T, what string, got, want State) {
	t.Helper()
	if !sameLists(got, want) {
		t.Errorf("%s: %d, not %d", what, got, want)
	}
}

// inItsBounds asks for what follows of every state: P10.4.
func inItsBounds(t *testing.T, what string, s State) {
	t.Helper()
	if len(s.Small)+len(s.Main) > s.C || len(s.Ghost) > s.C-max(s.C/10, 1) {
		t.Errorf("%s: too many keys: %d", what, s)
	}
	for _, it := range slices.Concat(s.Small, s.Main) {
		if it.Freq < 0 || it.Freq > 3 {
			t.Errorf("%s: a Freq of %d: %d", what, it.Freq, s)
		}
	}
	all := slices.Concat(keysOf(s.Small), keysOf(s.Main), s.Ghost)
	slices.Sort(all)
	if len(slices.Compact(slices.Clone(all))) != len(all) {
		t.Errorf("%s: a key is twice: %d", what, s)
	}
}

// fits holds a state, and all that is asked of it, against the model.
func fits(t *testing.T, what string, s State, m *model) {
	t.Helper()
	want := m.state()
	sameState(t, what, s, want)
	inItsBounds(t, what, s)
	same(t, what+", Keys", Keys(s), slices.Concat(keysOf(want.Small), keysOf(want.Main)))
	if g := Ghosts(s); g != len(want.Ghost) {
		t.Errorf("%s, Ghosts: %d, not %d", what, g, len(want.Ghost))
	}
	for _, k := range triedKeys() {
		if Has(s, k) != m.has(k) {
			t.Errorf("%s, Has %d: %t", what, k, Has(s, k))
		}
	}
}

// What state builds is what was asked for, so that the tests below begin where they say.
func TestStates(t *testing.T) {
	for _, c := range []struct {
		c                  int
		small, main, ghost string
	}{
		{1, "", "", ""}, {1, "0:3", "", ""}, {1, "", "g:2", ""}, {2, "0", "1:1", "g"},
		{10, "0 1:1 2:2 3:3", "g:3 5:2 6:1 7", "8 9 10 11 12"}, {1048576, "1 2 3:1", "4 5:3", "6 7"},
	} {
		sameState(t, "state", state(c.c, c.small, c.main, c.ghost), written(c.c, c.small, c.main, c.ghost))
	}
}

// P10.1: New, of capacities below 1, from 1 on, the greatest one, and above it.
func TestNew(t *testing.T) {
	for _, c := range []struct{ c, want int }{
		{math.MinInt, 1}, {-1, 1}, {0, 1}, {1, 1}, {2, 2}, {3, 3}, {9, 9}, {10, 10}, {11, 11}, {19, 19}, {20, 20},
		{1048575, 1048575}, {1048576, 1048576}, {1048577, 1048576}, {math.MaxInt, 1048576},
	} {
		s := New(c.c)
		sameState(t, "New", s, State{C: c.want})
		if len(Keys(s)) > 0 || Ghosts(s) != 0 || Has(s, 0) || Has(s, greatest) {
			t.Errorf("%d: %d", c.c, s)
		}
	}
}

// P10.1: Touch of a key in Small and of one in Main, at the front, in the middle and at the back, with every Freq: it stays in its place, and has one use more, 3 at most.
func TestTouch(t *testing.T) {
	const small, main, ghost = "0 1:1 2:2 3:3", "g:3 5:2 6:1 7", "8 9"
	s := state(10, small, main, ghost)
	for _, c := range []struct {
		k           uint64
		small, main string
	}{
		{0, "0:1 1:1 2:2 3:3", main},
		{1, "0 1:2 2:2 3:3", main},
		{2, "0 1:1 2:3 3:3", main},
		{3, small, main},
		{greatest, small, main},
		{5, small, "g:3 5:3 6:1 7"},
		{6, small, "g:3 5:2 6:2 7"},
		{7, small, "g:3 5:2 6:1 7:1"},
		{8, small, main},
		{9, small, main},
		{4, small, main},
		{1 << 32, small, main},
	} {
		sameState(t, fmt.Sprint("Touch ", c.k), Touch(s, c.k), written(10, c.small, c.main, ghost))
	}
	sameState(t, "Touch of none", Touch(New(2), 0), State{C: 2})
	sameState(t, "Touch of one that is remembered", Touch(state(2, "1", "", "0"), 0), written(2, "1", "", "0"))
}

// P10.1: Touch, again and again.
func TestTouchesAddUp(t *testing.T) {
	for _, s := range []State{state(2, "0", "g", "5"), state(1, "g", "", ""), state(1, "", "0", "")} {
		for n := range 6 {
			for _, it := range slices.Concat(s.Small, s.Main) {
				if it.Freq != min(n, 3) {
					t.Errorf("%d touches: %d", n, s)
				}
			}
			for _, k := range Keys(s) {
				s = Touch(s, k)
			}
		}
	}
}

// P10.2: Admit of a key that is there, in Small or in Main, where it stays in its place, with its Freq: full or not, nothing is evicted.
func TestAdmitOfAKey(t *testing.T) {
	for _, c := range []int{9, 7, 6} {
		s := state(c, "1:2 2 0:3", "7 8:1 g:2", "4 5")
		for _, k := range Keys(s) {
			got, evicted := Admit(s, k)
			sameState(t, "Admit", got, s)
			same(t, "Admit, evicted", evicted, nil)
		}
	}
}

// admission is an Admit: a state, as state has it, a key, and what comes of it.
type admission struct {
	c                           int
	small, main, ghost          string
	k                           uint64
	wantSmall, wantMain, wantGh string
	evicted                     []uint64
}

func (a admission) hold(t *testing.T) {
	t.Helper()
	s := state(a.c, a.small, a.main, a.ghost)
	got, evicted := Admit(s, a.k)
	what := fmt.Sprintf("Admit %d to %d", a.k, s)
	sameState(t, what, got, written(s.C, a.wantSmall, a.wantMain, a.wantGh))
	same(t, what+", evicted", evicted, a.evicted)
	if !Has(got, a.k) || len(evicted) > 0 && Has(got, evicted[0]) {
		t.Errorf("%s: Has", what)
	}
}

// P10.2: Admit with room: of a key that is nowhere, and of one that is remembered.
func TestAdmitWithRoom(t *testing.T) {
	for _, a := range []admission{
		{1, "", "", "", 0, "0", "", "", nil},
		{-5, "", "", "", greatest, "g", "", "", nil},
		{1048577, "1", "", "", 0, "0 1", "", "", nil},
		{3, "1:3", "2:1", "4 5", 6, "6 1:3", "2:1", "4 5", nil},
		{20, "1", "2 3", "4 5", 6, "6 1", "2 3", "4 5", nil},
		{20, "1", "", "4 5", 6, "6 1", "", "4 5", nil}, // less in Small than the target, and none in Main
		{2, "", "", "0", 0, "", "0", "", nil},
		{6, "1 2:3", "5:2", "3 g 4", greatest, "1 2:3", "g 5:2", "3 4", nil},
		{6, "1 2:3", "5:2", "3 g 4", 3, "1 2:3", "3 5:2", "g 4", nil},
		{6, "1 2:3", "5:2", "3 g 4", 4, "1 2:3", "4 5:2", "3 g", nil},
	} {
		a.hold(t)
	}
}

// P10.2: Admit that evicts from Small: items with a Freq above 1 go to Main's front, with a Freq of 0, till one has 0 or 1.
func TestAdmitEvictsFromSmall(t *testing.T) {
	for _, a := range []admission{
		// Nothing is remembered of capacity 1, one key of 2, two of 3.
		{1, "0", "", "", 1, "1", "", "", list(0)},
		{1, "g:1", "", "", 0, "0", "", "", list(greatest)},
		{2, "0 g", "", "", 1, "1 0", "", "g", list(greatest)},
		{2, "1 2", "", "3", 4, "4 1", "", "2", list(2)},
		{3, "1 2 3", "", "4", 5, "5 1 2", "", "3 4", list(3)},
		{3, "1 2 3", "", "4 6", 5, "5 1 2", "", "3 4", list(3)},
		// The last one's Freq.
		{4, "1 2:1", "8 9", "7", 6, "6 1", "8 9", "2 7", list(2)},
		{4, "1 2:2", "8:3 9:3", "7", 6, "6", "2 8:3 9:3", "1 7", list(1)},
		{4, "1 2:3", "8:3 9:3", "7", 6, "6", "2 8:3 9:3", "1 7", list(1)},
		{4, "1:1 2:3 3:2", "9", "7", 6, "6", "2 3 9", "1 7", list(1)},
		{4, "0 1:1 2:3 3:2", "", "7", 6, "6 0", "2 3", "1 7", list(1)},
		{4, "1:3 0 2:2", "9:3", "", 6, "6 1:3", "2 9:3", "0", list(0)},
	} {
		a.hold(t)
	}
}

// P10.2: Admit that evicts from Small, of which all items go to Main: it is evicted from Main, from what was there, and from what came now.
func TestAdmitEvictsAllOfSmall(t *testing.T) {
	for _, a := range []admission{
		{1, "0:2", "", "", 1, "1", "", "", list(0)},
		{1, "g:3", "", "", 0, "0", "", "", list(greatest)},
		{2, "0:3 1:2", "", "g", 5, "5", "0", "g", list(1)},
		{3, "1:3 2:2", "9", "7 8", 6, "6", "1 2", "7 8", list(9)},
		{3, "1:2 2:3", "9:1", "7 8", 6, "6", "9 1", "7 8", list(2)},
		{3, "1:2", "8:2 9:3", "", 6, "6", "8:1 9:2", "", list(1)},
		{3, "1:2", "8:2 9", "7", 7, "", "7 1 8:2", "", list(9)},
	} {
		a.hold(t)
	}
}

// P10.2: Admit that evicts from Main, whose items go round, each with a use less, till one has none; what was evicted isn't remembered.
func TestAdmitEvictsFromMain(t *testing.T) {
	for _, a := range []admission{
		{1, "", "0", "", 1, "1", "", "", list(0)},
		{1, "", "0:3", "", 1, "1", "", "", list(0)},
		{2, "", "1 g", "5", 6, "6", "1", "5", list(greatest)},
		{2, "", "1 2:1", "5", 6, "6", "2", "5", list(1)},
		{2, "", "1:1 2:1", "5", 6, "6", "1", "5", list(2)},
		{4, "", "1 2:1 3:2 4:3", "5", 6, "6", "2 3:1 4:2", "5", list(1)},
		{4, "", "1:3 2:2 3:1 4", "5", 6, "6", "1:3 2:2 3:1", "5", list(4)},
		{4, "", "1:3 2 3:1 4:2", "5", 6, "6", "3 4:1 1:3", "5", list(2)},
		{4, "", "1:1 2:2 3:3 4:1", "5", 6, "6", "1 2:1 3:2", "5", list(4)},
		{4, "", "1:3 2:3 3:3 4:3", "5", 6, "6", "1 2 3", "5", list(4)},
		{4, "", "1:2 2:1 3:3 4:3", "5", 6, "6", "3:1 4:1 1:1", "5", list(2)},
	} {
		a.hold(t)
	}
}

// P10.2: the target is a tenth of the capacity, 1 at least: with less in Small it is evicted from Main, with as many, or more, from Small.
func TestTarget(t *testing.T) {
	for _, c := range []struct{ c, target int }{
		{1, 1}, {2, 1}, {3, 1}, {9, 1}, {10, 1}, {11, 1}, {19, 1}, {20, 2}, {21, 2}, {29, 2}, {30, 3}, {99, 9}, {100, 10},
	} {
		s := State{C: c.c, Ghost: run(2001, 2000+uint64(c.c)-uint64(c.target))}
		for n := range c.c + 1 {
			s.Small, s.Main = itemsOf(run(1, 100)[:n], 1), itemsOf(run(1001, 1100)[n:c.c], 0)
			got, evicted := Admit(s, 0)
			want := State{c.c, append(items("0"), s.Small...), s.Main, s.Ghost}
			if n < c.target {
				want.Main = want.Main[:c.c-n-1]
				same(t, "evicted from Main", evicted, list(s.Main[c.c-n-1].Key))
			} else {
				want.Small = want.Small[:n]
				want.Ghost = append(list(uint64(n)), s.Ghost...)[:len(s.Ghost)]
				same(t, "evicted from Small", evicted, list(uint64(n)))
			}
			sameState(t, fmt.Sprintf("capacity %d, %d in Small", c.c, n), got, want)
		}
	}
}

// P10.2: Admit of a key that is remembered, without room: it is forgotten ahead of what is evicted for it, which so finds a place in Ghost, and comes to Main, with a Freq of 0.
func TestAdmitOfAGhost(t *testing.T) {
	for _, a := range []admission{
		{2, "1 2", "", "3", 3, "1", "3", "2", list(2)},
		{2, "", "4:1 5", "3", 3, "", "3 4:1", "", list(5)},
		{3, "1:1 2", "6", "3 4", 3, "1:1", "3 6", "2 4", list(2)},
		{3, "1:1 2", "6", "3 4", 4, "1:1", "4 6", "2 3", list(2)},
		{3, "1:1 2:2", "6", "3 4", 4, "", "4 2 6", "1 3", list(1)},
		{4, "1 2 5 6", "", "0 7 g", greatest, "1 2 5", "g", "6 0 7", list(6)},
		{4, "", "1:3 2:1 5 6:1", "0 7 g", 0, "", "0 6 1:3 2:1", "7 g", list(5)},
	} {
		a.hold(t)
	}
}

// P10.2: keys fall off the back of Ghost above the room, the one that was evicted first as the first one; what fell counts as new.
func TestGhostFalls(t *testing.T) {
	for _, c := range []struct{ c, room uint64 }{
		{1, 0}, {2, 1}, {3, 2}, {9, 8}, {10, 9}, {11, 10}, {19, 18}, {20, 18}, {21, 19}, {29, 27}, {30, 27}, {31, 28},
	} {
		s := admitted(New(int(c.c)), run(1, 99)) // 99 comes first, and 1 last
		want := run(c.c+1, c.c+1+c.room)[:c.room]
		same(t, fmt.Sprint("Ghost of capacity ", c.c), s.Ghost, want)
		if Ghosts(s) != len(want) {
			t.Errorf("capacity %d, Ghosts: %d", c.c, Ghosts(s))
		}
	}
	s, _ := Admit(state(3, "1 2 3", "", "4 5"), 7)
	s, evicted := Admit(s, 5)
	sameState(t, "Admit of what fell", s, written(3, "5 7 1", "", "2 3"))
	same(t, "Admit of what fell, evicted", evicted, list(2))
}

// P10.1: Drop of a key of each queue, and of one that is in none; what is dropped isn't remembered, and makes room.
func TestDrop(t *testing.T) {
	const small, main, ghost = "0 1:1 2:3", "6:2 7 g:1", "3 4 5"
	s := state(6, small, main, ghost)
	for _, c := range []struct {
		k                  uint64
		small, main, ghost string
	}{
		{0, "1:1 2:3", main, ghost},
		{1, "0 2:3", main, ghost},
		{2, "0 1:1", main, ghost},
		{6, small, "7 g:1", ghost},
		{7, small, "6:2 g:1", ghost},
		{greatest, small, "6:2 7", ghost},
		{3, small, main, "4 5"},
		{4, small, main, "3 5"},
		{5, small, main, "3 4"},
		{8, small, main, ghost},
		{1<<32 | 1, small, main, ghost},
	} {
		got := Drop(s, c.k)
		sameState(t, fmt.Sprint("Drop ", c.k), got, written(6, c.small, c.main, c.ghost))
		if Has(got, c.k) {
			t.Errorf("Has %d behind a Drop", c.k)
		}
	}
	sameState(t, "Drop of none", Drop(New(1), 0), State{C: 1})
	got, evicted := Admit(Drop(s, 7), 8)
	sameState(t, "Admit behind a Drop", got, written(6, "8 0 1:1 2:3", "6:2 g:1", ghost))
	same(t, "Admit behind a Drop, evicted", evicted, nil)
	got, evicted = Admit(Drop(s, 3), 3)
	sameState(t, "Admit of what was remembered, and dropped", got, written(6, "3 0", "2 6:2 7 g:1", "1 4 5"))
	same(t, "Admit of what was remembered, and dropped, evicted", evicted, list(1))
	got, _ = Admit(Drop(s, 2), 2)
	sameState(t, "Admit of what was used, and dropped", got, written(6, "2 0 1:1", main, ghost))
}

// resizing is a Resize: a state, as state has it, a capacity, and what comes of it.
type resizing struct {
	s                  State
	c                  int
	small, main, ghost string
	evicted            []uint64
}

func (r resizing) hold(t *testing.T) {
	t.Helper()
	got, evicted := Resize(r.s, r.c)
	what := fmt.Sprintf("Resize %d of %d", r.c, r.s)
	sameState(t, what, got, written(inBounds(r.c), r.small, r.main, r.ghost))
	same(t, what+", evicted", evicted, r.evicted)
	if len(evicted) != max(len(Keys(r.s))-inBounds(r.c), 0) {
		t.Errorf("%s: %d were evicted", what, len(evicted))
	}
}

// P10.2, P6: Resize to more, to the same, to less, to 1, below 1, and above the greatest one: Small is evicted while it has the new target, and Main behind it; what is remembered has the new room.
func TestResize(t *testing.T) {
	const small, main, ghost = "1 2:1 3:2 4", "5 6:1 7:3 0:2", "11 12 13 14 15 16 g"
	s := state(8, small, main, ghost)
	all := list(4, 2, 1, 5, 3, 6, 0)
	for _, r := range []resizing{
		{New(3), 5, "", "", "", nil},
		{New(3), 0, "", "", "", nil},
		{New(3), math.MaxInt, "", "", "", nil},
		{s, 1048577, small, main, ghost, nil},
		{s, 1048576, small, main, ghost, nil},
		{s, 9, small, main, ghost, nil},
		{s, 8, small, main, ghost, nil},
		{s, 7, "1 2:1 3:2", main, "4 11 12 13 14 15", all[:1]},
		{s, 6, "1", "3 5 6:1 7:3 0:2", "2 4 11 12 13", all[:2]},
		{s, 5, "", "3 5 6:1 7:3 0:2", "1 2 4 11", all[:3]},
		{s, 4, "", "6 7:2 0:1 3", "1 2 4", all[:4]},
		{s, 3, "", "6 7:2 0:1", "1 2", all[:5]},
		{s, 2, "", "7:1 0", "1", append(all[:5:5], 6)},
		{s, 1, "", "7:1", "", all},
		{s, 0, "", "7:1", "", all},
		{s, math.MinInt, "", "7:1", "", all},
		{state(9, "", "", "1 2 3 4 5 6 7 8"), 9, "", "", "1 2 3 4 5 6 7 8", nil},
		{state(9, "", "", "1 2 3 4 5 6 7 8"), 4, "", "", "1 2 3", nil},
		{state(9, "0", "9", "1 2 3 4 5 6 7 8"), 2, "0", "9", "1", nil},
		{state(9, "0", "", "1 2 3 4 5 6 7 8"), -1, "0", "", "", nil},
		{state(3, "0 1 g", "", ""), 1, "0", "", "", list(greatest, 1)},
		{state(3, "0:2 1:3 g:2", "", ""), 1, "", "0", "", list(greatest, 1)},
		{state(3, "0:1 1:3 g:2", "", ""), 2, "", "1 g", "0", list(0)},
		{state(1, "g:3", "", ""), 1, "g:3", "", "", nil},
	} {
		r.hold(t)
	}
	more, _ := Resize(s, 9)
	got, evicted := Admit(more, 17)
	sameState(t, "Admit behind a Resize", got, written(9, "17 "+small, main, ghost))
	same(t, "Admit behind a Resize, evicted", evicted, nil)
}

// P10.2: Resize of states where the old target, and the old room, are others than the new ones.
func TestResizeTargets(t *testing.T) {
	s := State{C: 40, Small: itemsOf(run(1, 6), 0), Main: itemsOf(run(11, 34), 0), Ghost: run(41, 76)}
	gone := list(6, 5, 4, 3, 2) // down to 1 of Small: 20 to 29 have the target 2
	for _, c := range []struct {
		c           int
		small, main int
		evicted     []uint64
	}{
		{30, 6, 24, nil},
		{29, 5, 24, gone[:1]},
		{28, 4, 24, gone[:2]},
		{25, 1, 24, gone},
		{24, 1, 23, append(gone[:5:5], 34)},
		{20, 1, 19, append(gone[:5:5], 34, 33, 32, 31, 30)},
		{19, 0, 19, append(gone[:5:5], 1, 34, 33, 32, 31, 30)}, // the target is 1: the last of Small goes, too
	} {
		got, evicted := Resize(s, c.c)
		ghosts := slices.Concat(run(uint64(c.small)+1, 6)[:6-c.small], s.Ghost)
		room := c.c - max(c.c/10, 1)
		want := State{c.c, s.Small[:c.small], s.Main[:c.main], ghosts[:min(room, len(ghosts))]}
		sameState(t, fmt.Sprint("Resize ", c.c), got, want)
		same(t, fmt.Sprint("Resize ", c.c, ", evicted"), evicted, c.evicted)
	}
}

// P10.3: Has, Keys and Ghosts: of keys in Small and in Main, that are remembered, that fell, and that never were.
func TestAsked(t *testing.T) {
	s := state(6, "0 1:3 2", "6:2 7 g", "3 4 5 10 11")
	for _, k := range list(0, 1, 2, 6, 7, greatest) {
		if !Has(s, k) {
			t.Errorf("Has not %d", k)
		}
	}
	for _, k := range list(3, 4, 5, 8, 1<<32, 1<<32|1) {
		if Has(s, k) {
			t.Errorf("Has %d", k)
		}
	}
	same(t, "Keys", Keys(s), list(0, 1, 2, 6, 7, greatest))
	same(t, "Keys of Small", Keys(state(6, "0:1 1", "", "3")), list(0, 1))
	same(t, "Keys of Main", Keys(state(6, "", "0 1:2", "3")), list(0, 1))
	same(t, "Keys of Ghost", Keys(state(6, "", "", "3")), nil)
	if Ghosts(s) != 5 || Ghosts(New(6)) != 0 || Ghosts(state(6, "0 1", "2", "3")) != 1 {
		t.Error("Ghosts")
	}
	s, evicted := Admit(s, 8)
	same(t, "evicted", evicted, list(2))
	if Has(s, 2) || Has(s, 11) || !Has(s, 8) || Ghosts(s) != 5 {
		t.Errorf("Has, or Ghosts, of %d", s)
	}
}

// P10.1 to P10.4: of all small states, and behind each call, all is as the model has it.
func TestAllStates(t *testing.T) {
	steps := allSteps()
	for _, s := range triedStates(3) {
		fits(t, "ahead", s, modelOf(s))
		for _, p := range steps {
			m := modelOf(s)
			want := p.follow(m)
			got, evicted := p.do(s)
			fits(t, p.String(), got, m)
			same(t, p.String()+", evicted", evicted, want)
		}
		if t.Failed() {
			return
		}
	}
}

// someStep takes a step by chance, of so many keys.
func someStep(r *rand.Rand, keys int) step {
	k := uint64(r.IntN(keys))
	if k == 3 {
		k = greatest
	}
	switch n := r.IntN(32); {
	case n < 13:
		return step{kind: touch, k: k}
	case n < 29:
		return step{kind: admit, k: k}
	case n < 31:
		return step{kind: drop, k: k}
	}
	return step{kind: resize, c: r.IntN(keys+2) - 1}
}

// P10.1 to P10.4: long scripts, step by step as the model, of capacities where the target and the room are of all sizes up to some.
func TestScripts(t *testing.T) {
	for seed := range uint64(60) {
		r := rand.New(rand.NewPCG(seed, 10))
		keys := 4 + r.IntN(66)
		c := r.IntN(keys)
		s, m := New(c), newModel(c)
		for range 400 {
			p := someStep(r, keys)
			want := p.follow(m)
			var evicted []uint64
			s, evicted = p.do(s)
			fits(t, p.String(), s, m)
			same(t, p.String()+", evicted", evicted, want)
		}
		if t.Failed() {
			return
		}
	}
}

// P10.4: whatever is called of whatever keys, there are no more than there may be, and none is in two queues.
func TestBounds(t *testing.T) {
	for seed := range uint64(20) {
		r := rand.New(rand.NewPCG(seed, 104))
		s := New(1 + r.IntN(200))
		for range 2000 {
			p := someStep(r, 300)
			ahead := len(Keys(s))
			next, evicted := p.do(s)
			inItsBounds(t, p.String(), next)
			if p.kind == resize && len(evicted) != max(ahead-next.C, 0) {
				t.Errorf("%s of %d keys: %d were evicted", p, ahead, len(evicted))
			}
			s = next
		}
	}
}
