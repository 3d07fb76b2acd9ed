package lirs

import (
	"fmt"
	"math"
	"slices"
	"strconv"
	"strings"
	"testing"
)

const greatest = math.MaxUint64

// mark is what a test writes over lists: no list of a test has it as a key, nor one of those above it, but for what reached needs by the way.
const mark = 0xdead0000

// list writes a list of keys shortly.
func list(keys ...uint64) []uint64 { return keys }

// run is a list of the keys from one on to another one, with both.
func run(from, to uint64) []uint64 {
	l := make([]uint64, to-from+1)
	for i := range l {
		l[i] = from + uint64(i)
	}
	return l
}

// key is one that is written out: "m" is the greatest one.
func key(word string) uint64 {
	k, err := strconv.ParseUint(word, 10, 64)
	if err != nil {
		return greatest
	}
	return k
}

// keys are some that are written out.
func keys(text string) []uint64 {
	var l []uint64
	for _, word := range strings.Fields(text) {
		l = append(l, key(word))
	}
	return l
}

// of are items of some keys, all of a kind.
func of(kind int, keys []uint64) []Item {
	var l []Item
	for _, k := range keys {
		l = append(l, Item{k, kind})
	}
	return l
}

// written is a state that is written out: S and Q, with a bar between; an item is its key, and g, c or h: Gone, Cold or Hot.
func written(c int, text string) State {
	items, q, _ := strings.Cut(text, "|")
	s := State{C: c, Q: keys(q)}
	for _, word := range strings.Fields(items) {
		last := len(word) - 1
		s.S = append(s.S, Item{key(word[:last]), strings.Index("gch", word[last:])})
	}
	return s
}

// builder leads to a state by calls. Its fillers are hot keys that are dropped at last: as long as they leave no room for hot ones, a key that is admitted is Cold.
type builder struct {
	s       State
	next    uint64
	fillers []uint64
}

// some is a key that no test has, admitted.
func (b *builder) some() uint64 {
	b.next++
	b.s, _ = Admit(b.s, mark+b.next)
	return mark + b.next
}

func (b *builder) drop(keys []uint64) {
	for _, k := range keys {
		b.s = Drop(b.s, k)
	}
}

// hot puts a hot key to the front of S, in a filler's place.
func (b *builder) hot(k uint64) {
	b.drop(b.fillers[:1])
	b.fillers = b.fillers[1:]
	b.s, _ = Admit(b.s, k)
}

// cool puts the last hot key of S to the end of Q.
func (b *builder) cool() {
	k := b.some()
	b.s = Touch(b.s, k)
	b.fillers = append(b.fillers, k)
}

// alone are the keys of Q that have no item in S.
func alone(s State) []uint64 {
	var l []uint64
	for _, k := range s.Q {
		if !slices.Contains(s.S, Item{k, Cold}) {
			l = append(l, k)
		}
	}
	return l
}

// reached is a state that is written out, reached by calls: the keys that are in Q alone are hot ones behind all of S that are cooled when their turn in Q comes; those that are to be Gone are cold till all is laid.
func reached(want State) State {
	gone, single := count(want, Gone), alone(want)
	places := max(len(want.Q)+2*gone+1, (len(want.Q)+len(want.S))/99+1)
	b := builder{s: New(100 * places)}
	for _, k := range single {
		b.s, _ = Admit(b.s, k)
	}
	for range 99*places - len(single) {
		b.fillers = append(b.fillers, b.some())
	}
	q := want.Q
	for _, item := range slices.Backward(want.S) {
		for item.Kind == Cold && q[0] != item.Key {
			b.cool()
			q = q[1:]
		}
		switch item.Kind {
		case Hot:
			b.hot(item.Key)
		case Cold:
			q = q[1:]
			fallthrough
		case Gone:
			b.s, _ = Admit(b.s, item.Key)
		}
	}
	for range q {
		b.cool()
	}
	return b.evicted(gone, want.C)
}

// evicted has the first keys of Q be Gone. As many others are there meanwhile, so that there is a capacity that has just those leave and forgets none.
func (b *builder) evicted(gone, c int) State {
	var others []uint64
	for range gone {
		others = append(others, b.some())
	}
	b.drop(b.fillers)
	if gone > 0 {
		b.s, _ = Resize(b.s, len(Keys(b.s))-gone)
	}
	b.drop(others)
	b.s, _ = Resize(b.s, c)
	return b.s
}

// ofCalls is a state that comes of calls, so that no test begins with one that can't be.
func ofCalls(want State) State {
	if s := reached(want); !equal(s, want) {
		panic(fmt.Sprintf("not reached by calls: %d, but %d", want, s))
	}
	return want
}

// state is one of those that is written out.
func state(c int, text string) State { return ofCalls(written(c, text)) }

func same(t *testing.T, what string, got, want []uint64) {
	t.Helper()
	if !slices.Equal(got, want) {
		t.Errorf("%s: %d, not %d", what, got, want)
	}
}

func equal(a, b State) bool {
	return a.C == b.C && slices.Equal(a.S, b.S) && slices.Equal(a.Q, b.Q)
}

// sameState holds a state against another one, and what is told of it against what that one's lists have.
func sameState(t *testing.T, what string, got, want State) {
	t.Helper()
	if !equal(got, want) {
		t.Errorf("%s: %d, not %d", what, got, want)
	}
	there := map[uint64]bool{}
	var hot []uint64
	ghosts := 0
	for _, item := range want.S {
		switch item.Kind {
		case Hot:
			hot = append(hot, item.Key)
			there[item.Key] = true
		case Gone:
			ghosts++
		}
	}
	for _, k := range want.Q {
		there[k] = true
	}
	same(t, what+", Keys", Keys(got), append(hot, want.Q...))
	if g := Ghosts(got); g != ghosts {
		t.Errorf("%s, Ghosts: %d, not %d", what, g, ghosts)
	}
	for _, k := range append(allKeys(want), 0, 1, 1<<33, greatest) {
		if Has(got, k) != there[k] {
			t.Errorf("%s, Has %d: %t", what, k, !there[k])
		}
	}
}

// allKeys are those of S, and of Q.
func allKeys(s State) []uint64 {
	var l []uint64
	for _, item := range s.S {
		l = append(l, item.Key)
	}
	return append(l, s.Q...)
}

// A trial is a call's: of a state, with a key, what it leads to, and what is evicted.
type trial struct {
	c       int
	ahead   string
	k       uint64
	behind  string
	evicted string
}

// try tries calls of one kind.
func try(t *testing.T, kind kind, all []trial) {
	t.Helper()
	for _, x := range all {
		s := state(x.c, x.ahead)
		p := step{kind: kind, k: x.k}
		what := fmt.Sprintf("%s of %d: %s", p, x.c, x.ahead)
		got, evicted := p.do(s)
		sameState(t, what, got, written(x.c, x.behind))
		same(t, what+", evicted", evicted, keys(x.evicted))
		sameState(t, what+", which stays", s, written(x.c, x.ahead))
	}
}

// What state builds is what was asked for, so that the tests below begin where they say; and small states that are tried come of calls.
func TestStates(t *testing.T) {
	for c := 1; c <= 3; c++ {
		for _, s := range shapes(c) {
			sameState(t, "state", reached(s), s)
		}
	}
	sameState(t, "state", state(9, "mc 1h 0c 2g 1048576h 4g 5h|6 0 7 m 8"), State{9,
		[]Item{{greatest, Cold}, {1, Hot}, {0, Cold}, {2, Gone}, {1048576, Hot}, {4, Gone}, {5, Hot}}, list(6, 0, 7, greatest, 8)})
	sameState(t, "state", state(1048576, "1c 2g 3h|1"), State{1048576, []Item{{1, Cold}, {2, Gone}, {3, Hot}}, list(1)})
}

// The kinds' numbers.
func TestKinds(t *testing.T) {
	if Gone != 0 || Cold != 1 || Hot != 2 {
		t.Error(Gone, Cold, Hot)
	}
}

// P12.1: New, of all sorts of capacities.
func TestNew(t *testing.T) {
	for _, c := range []struct{ c, want int }{
		{math.MinInt, 1}, {-1, 1}, {0, 1}, {1, 1}, {2, 2}, {3, 3}, {100, 100}, {101, 101}, {200, 200}, {201, 201},
		{1048575, 1048575}, {1048576, 1048576}, {1048577, 1048576}, {math.MaxInt, 1048576},
	} {
		sameState(t, fmt.Sprint("New ", c.c), New(c.c), State{C: c.want})
	}
}

// P12.1: a touch of a key that is Hot: it goes to the front, and what was ahead of it, if it was the last one, is pruned.
func TestTouchHot(t *testing.T) {
	try(t, touch, []trial{
		{2, "1h|", 1, "1h|", ""},
		{3, "1h 2c 3h|2", 1, "1h 2c 3h|2", ""},
		{4, "1h 2h 3h|", 2, "2h 1h 3h|", ""},
		{4, "0c mh 3g 2h|0", greatest, "mh 0c 3g 2h|0", ""},
		{3, "1h 2h|", 2, "2h 1h|", ""},
		{2, "2c 1h|2", 1, "1h|2", ""},
		{3, "3g 2g 1h|", 1, "1h|", ""},
		{3, "1h 2c 3g 4h|2", 4, "4h 1h|2", ""},
		{7, "1h 2c 5h 3c 4g 0h|6 3 7 2", 0, "0h 1h 2c 5h|6 3 7 2", ""},
		{5, "1c 2g mh|1 3", greatest, "mh|1 3", ""},
	})
}

// P12.1: a touch of a key that is in Q, with an item in S: it is Hot then, and the last hot one is cooled if there is no room for both.
func TestTouchCold(t *testing.T) {
	try(t, touch, []trial{
		{3, "2c 1h|2", 2, "2h 1h|", ""},
		{4, "mc 1h|3 m", greatest, "mh 1h|3", ""},
		{4, "3c 1h 2c 0h|2 3", 2, "2h 3c 1h 0h|3", ""},
		{5, "3c 1h 2c 0h|2 4 3", 2, "2h 3c 1h 0h|4 3", ""},
		{5, "7c 1h 0c 5g 3h 6g 2h|0 7", 0, "0h 7c 1h 5g 3h 6g 2h|7", ""},
		{2, "2c 1h|2", 2, "2h|1", ""},
		{2, "2c 3g 4g 1h|2", 2, "2h|1", ""},
		{3, "5c 1h 4g 2h|5", 5, "5h 1h|2", ""},
		{3, "1h 5c 4g 2h|5", 5, "5h 1h|2", ""},
		{4, "mc 1h 3g 2h 5g 6g 0h|m", greatest, "mh 1h 3g 2h|0", ""},
	})
}

// P12.1: a touch of a key that is in Q alone: it is Cold, and the last one to go, even if there is room for a hot one. Without hot ones S stays empty.
func TestTouchAlone(t *testing.T) {
	try(t, touch, []trial{
		{5, "1h|2 3 4", 2, "2c 1h|3 4 2", ""},
		{5, "1h|2 3 4", 3, "3c 1h|2 4 3", ""},
		{5, "1h|2 3 4", 4, "4c 1h|2 3 4", ""},
		{2, "1h|0", 0, "0c 1h|0", ""},
		{4, "3c 1h 2g 0h|m 3", greatest, "mc 3c 1h 2g 0h|3 m", ""},
		{4, "3c 1h 2g 0h|3 m", greatest, "mc 3c 1h 2g 0h|3 m", ""},
		{3, "|1 2 3", 1, "|2 3 1", ""},
		{3, "|1 2 3", 2, "|1 3 2", ""},
		{3, "|1 2 3", 3, "|1 2 3", ""},
		{1, "|7", 7, "|7", ""},
	})
}

// P12.1: a touch of a key that is Gone, or nowhere, changes nothing.
func TestTouchOthers(t *testing.T) {
	try(t, touch, []trial{
		{2, "2g 1h|", 2, "2g 1h|", ""},
		{2, "3c 0g mg 1h|3", 0, "3c 0g mg 1h|3", ""},
		{2, "3c 0g mg 1h|3", greatest, "3c 0g mg 1h|3", ""},
		{2, "3c 2g 1h|3", 0, "3c 2g 1h|3", ""},
		{2, "3c 2g 1h|3", greatest, "3c 2g 1h|3", ""},
		{3, "2g 1h|3", 4294967297, "2g 1h|3", ""},
		{1, "|1", 0, "|1", ""},
		{4, "|", 0, "|", ""},
		{4, "|", greatest, "|", ""},
	})
}

// P12.1: a drop of a key of each kind, with S pruned behind it.
func TestDrop(t *testing.T) {
	try(t, drop, []trial{
		{4, "1h 2c 3g 4h|2", 1, "2c 3g 4h|2", ""},
		{5, "1h 2c 5h 3g 4h|2", 5, "1h 2c 3g 4h|2", ""},
		{4, "1h 2c 3g 4h|2", 4, "1h|2", ""},
		{5, "0h 2c mh 3g 4h|2", 4, "0h 2c mh|2", ""},
		{3, "2c 3g 1h|4 2", 1, "|4 2", ""},
		{2, "0h|", 0, "|", ""},
		{2, "mh|", greatest, "|", ""},
		{4, "1h 2c 3g 4h|2", 2, "1h 3g 4h|", ""},
		{6, "0c 1h 2c 4h|2 5 0", 2, "0c 1h 4h|5 0", ""},
		{6, "0c 1h 2c 4h|2 5 0", 0, "1h 2c 4h|2 5", ""},
		{4, "1h 2c 3g mg 4h|2", 3, "1h 2c mg 4h|2", ""},
		{4, "1h 2c 3g mg 4h|2", greatest, "1h 2c 3g 4h|2", ""},
		{4, "1h|2 3 m", 2, "1h|3 m", ""},
		{4, "1h|2 3 m", 3, "1h|2 m", ""},
		{4, "1h|2 3 m", greatest, "1h|2 3", ""},
		{1, "|5", 5, "|", ""},
		{4, "1h 2c 3g 4h|2", 0, "1h 2c 3g 4h|2", ""},
		{4, "1h 2c 3g 4h|2", greatest, "1h 2c 3g 4h|2", ""},
		{4, "|", 0, "|", ""},
	})
}

// P12.2: an admission of a key that is there changes nothing, even of a full state.
func TestAdmitThere(t *testing.T) {
	try(t, admit, []trial{
		{2, "3c 2g 1h|3", 1, "3c 2g 1h|3", ""},
		{2, "3c 2g 1h|3", 3, "3c 2g 1h|3", ""},
		{3, "1h 2c 3g 4h|2", 4, "1h 2c 3g 4h|2", ""},
		{4, "2g 0h|3 m", 0, "2g 0h|3 m", ""},
		{4, "2g 0h|3 m", greatest, "2g 0h|3 m", ""},
		{4, "2g 0h|3 m", 3, "2g 0h|3 m", ""},
		{1, "|1", 1, "|1", ""},
		{3, "|1 0 2", 0, "|1 0 2", ""},
	})
}

// P12.2: an admission of a key that is nowhere: Hot, if there is room for a hot one, and else Cold, and the last one to go.
func TestAdmitNowhere(t *testing.T) {
	try(t, admit, []trial{
		{2, "|", 0, "0h|", ""},
		{1048576, "|", greatest, "mh|", ""},
		{3, "1h|", 2, "2h 1h|", ""},
		{5, "3c 2g 1h|4 3", 5, "5h 3c 2g 1h|4 3", ""},
		{3, "1h|2 3", 4, "4h 1h|3", "2"},
		{3, "3c 2c 1h|2 3", 4, "4h 3c 2g 1h|3", "2"},
		{2, "|1 2", 3, "3h|2", "1"},
		{2, "1h|", 2, "2c 1h|2", ""},
		{3, "2h 4g 1h|", greatest, "mc 2h 4g 1h|m", ""},
		{2, "2c 1h|2", 3, "3c 2g 1h|3", "2"},
		{2, "1h|2", 3, "3c 1h|3", "2"},
		{3, "2h 3c 4g 1h|3", 0, "0c 2h 3g 4g 1h|0", "3"},
		{1, "|", 0, "|0", ""},
		{1, "|0", greatest, "|m", "0"},
	})
}

// P12.2: an admission of a key that is Gone: it is Hot, and the last hot one is cooled, if there is no room for both.
func TestAdmitGone(t *testing.T) {
	try(t, admit, []trial{
		{3, "2g 1h|", 2, "2h 1h|", ""},
		{4, "3c 2g mg 0h|3", greatest, "mh 3c 2g 0h|3", ""},
		{3, "2g 1h|3 4", 2, "2h 1h|4", "3"},
		{4, "4c 3c 2g 1h|3 5 4", 2, "2h 4c 3g 1h|5 4", "3"},
		{2, "2g 1h|", 2, "2h|1", ""},
		{3, "3g 2h 4g 1h|", 3, "3h 2h|1", ""},
		{3, "3g 2h 4g 1h|", 4, "4h 3g 2h|1", ""},
		{2, "3c 2g 1h|3", 2, "2h|1", "3"},
		{3, "4c 3g 2h 1h|4", 3, "3h 4g 2h|1", "4"},
		{3, "2h 4c 0g 1h|4", 0, "0h 2h|1", "4"},
		{3, "2h 3g 1h|4", 3, "3h 2h|1", "4"},
	})
}

// P12.2: what is evicted is Gone just if S has its item; else it isn't remembered.
func TestEvictedIsGone(t *testing.T) {
	try(t, admit, []trial{
		{3, "3c 1h|3 2", 4, "4h 3g 1h|2", "3"},
		{3, "3c 1h|2 3", 4, "4h 3c 1h|3", "2"},
		{2, "mc 0h|m", 1, "1c mg 0h|1", "m"},
		{2, "mh|0", 1, "1c mh|1", "0"},
	})
}

// P12.2: of more items that are Gone than the capacity the last ones are forgotten, but at last only: one that comes again is none of them any more, and those that are pruned are none either.
func TestForgotten(t *testing.T) {
	try(t, admit, []trial{
		{2, "4c 3g 1h|4", 5, "5c 4g 3g 1h|5", "4"},
		{2, "4c 3g 2g 1h|4", 5, "5c 4g 3g 1h|5", "4"},
		{3, "5c 4g 2h 3g mg 1h|5", 0, "0c 5g 4g 2h 3g 1h|0", "5"},
		{3, "6c 5g 4g 3g 2h 1h|6", 7, "7c 6g 5g 4g 2h 1h|7", "6"},
		{3, "6c 5g 4g 3g 2h 1h|6", 4, "4h 6g 5g 3g 2h|1", "6"},
		{3, "6c 5g 4g 3g 2h 1h|6", 3, "3h 6g 5g 4g 2h|1", "6"},
		{3, "6c 5h 4g 3g 2g 1h|6", 3, "3h 6g 5h|1", "6"},
		{2, "4c 3g 2g 1h|4", 2, "2h|1", "4"},
		{4, "5c 1h|6 7 5", 2, "2h 5c 1h|7 5", "6"},
	})
}

// roomsOf are capacities with the room for hot ones that they have.
func roomsOf() [][2]int {
	return [][2]int{{1, 0}, {2, 1}, {3, 2}, {4, 3}, {99, 98}, {100, 99}, {101, 100}, {199, 198}, {200, 198}, {201, 199}, {299, 297}, {300, 297}, {399, 396}, {400, 396}}
}

// P12.2: keys that come first are Hot as long as there is room for hot ones; further ones are Cold as long as there is room for keys, and then they evict each other.
func TestRooms(t *testing.T) {
	for _, c := range roomsOf() {
		s, room := New(c[0]), c[1]
		for k := range uint64(c[0]) {
			s, _ = Admit(s, k+1)
		}
		hot, cold := run(1, uint64(room)), run(uint64(room)+1, uint64(c[0]))
		want := State{C: c[0], Q: cold}
		if room > 0 {
			want.S = slices.Concat(of(Cold, backward(cold)), of(Hot, backward(hot)))
		}
		sameState(t, fmt.Sprint("filled ", c), s, want)
		s, evicted := Admit(s, 0)
		same(t, fmt.Sprint("evicted of ", c), evicted, cold[:1])
		same(t, fmt.Sprint("keys of ", c), Keys(s), slices.Concat(backward(hot), cold[1:], list(0)))
	}
}

func backward(l []uint64) []uint64 {
	l = slices.Clone(l)
	slices.Reverse(l)
	return l
}

// wide is a state of a capacity that has room for more than one cold key: 900, which is in Q alone, and others that come behind it; and all hot ones that there may be, from 1 on.
func wide(c, room int, cold ...uint64) State {
	return ofCalls(State{c, append(of(Cold, backward(cold)), of(Hot, run(1, uint64(room)))...), append(list(900), cold...)})
}

// P12.1, P12.2: where there is room for several cold keys, one that is cooled goes behind all others of Q.
func TestCooledIsLast(t *testing.T) {
	s := wide(200, 198, 901)
	hot := of(Hot, run(1, 197))
	got := Touch(s, 901)
	sameState(t, "Touch of 200", got, State{200, append(of(Hot, list(901)), hot...), list(900, 198)})
	got = Touch(s, 900)
	sameState(t, "Touch of 200, in Q alone", got, State{200, append(of(Cold, list(900)), s.S...), list(901, 900)})
	s, _ = Admit(s, 905)
	got, evicted := Admit(s, 901)
	sameState(t, "Admit to 200 of one in Q", got, State{200, slices.Concat(of(Cold, list(905)), of(Cold, list(901)), s.S[2:]), list(901, 905)})
	same(t, "evicted", evicted, nil)
	s, evicted = Admit(s, 906)
	sameState(t, "Admit to 200", s, State{200, slices.Concat(of(Cold, list(906, 905)), of(Gone, list(901)), of(Hot, run(1, 198))), list(905, 906)})
	same(t, "evicted", evicted, list(901))
	s, evicted = Admit(s, 901)
	sameState(t, "Admit to 200, out of Gone", s, State{200, slices.Concat(of(Hot, list(901)), of(Cold, list(906)), of(Gone, list(905)), hot), list(906, 198)})
	same(t, "evicted", evicted, list(905))
	s = wide(300, 297, 901, 902)
	got = Touch(s, 901)
	sameState(t, "Touch of 300", got, State{300, slices.Concat(of(Hot, list(901)), of(Cold, list(902)), of(Hot, run(1, 296))), list(900, 902, 297)})
}

// A sizing is a Resize: of a state, to a capacity, what it leads to, and what is evicted.
type sizing struct {
	c       int
	ahead   string
	to, is  int
	behind  string
	evicted string
}

func size(t *testing.T, all []sizing) {
	t.Helper()
	for _, x := range all {
		s := state(x.c, x.ahead)
		what := fmt.Sprintf("Resize to %d of %d: %s", x.to, x.c, x.ahead)
		got, evicted := Resize(s, x.to)
		sameState(t, what, got, written(x.is, x.behind))
		same(t, what+", evicted", evicted, keys(x.evicted))
		sameState(t, what+", which stays", s, written(x.c, x.ahead))
	}
}

// P12.3, P6: to more, and to the same, nothing is changed but the capacity.
func TestResizeToMore(t *testing.T) {
	const full = "1h 2c 3h 4g 0h mh|2"
	size(t, []sizing{
		{5, full, 5, 5, full, ""},
		{5, full, 6, 6, full, ""},
		{5, full, 200, 200, full, ""},
		{5, full, 1048576, 1048576, full, ""},
		{5, full, 1048577, 1048576, full, ""},
		{5, full, math.MaxInt, 1048576, full, ""},
		{1, "|1", 2, 2, "|1", ""},
		{1, "|1", 1, 1, "|1", ""},
		{3, "|", 9, 9, "|", ""},
	})
}

// P12.3, P6: to less: hot ones are cooled, and go behind what was in Q; the first ones of Q are evicted, just as many as there are too many; S is pruned.
func TestResizeToLess(t *testing.T) {
	const full = "1h 2c 3h 4g 0h mh|2"
	size(t, []sizing{
		{5, full, 4, 4, "1h 2g 3h 4g 0h|m", "2"},
		{5, full, 3, 3, "1h 2g 3h|0", "2 m"},
		{5, full, 2, 2, "1h|3", "2 m 0"},
		{5, full, 1, 1, "|1", "2 m 0 3"},
		{5, full, 0, 1, "|1", "2 m 0 3"},
		{5, full, -1, 1, "|1", "2 m 0 3"},
		{5, full, math.MinInt, 1, "|1", "2 m 0 3"},
		{9, full, 5, 5, full, ""},
		{9, "1h 2h 3h 4h|", 4, 4, "1h 2h 3h|4", ""},
		{9, "1h 2h 4g 3h|", 3, 3, "1h 2h|3", ""},
		{9, "2c 1h|3 4 2", 4, 4, "2c 1h|3 4 2", ""},
		{9, "2c 1h|3 4 2", 3, 3, "2c 1h|4 2", "3"},
		{9, "2c 1h|3 4 2", 2, 2, "2c 1h|2", "3 4"},
		{9, "2c 1h|3 4 2", 1, 1, "|1", "3 4 2"},
		{9, "4c 2c 1h|2 3 4", 2, 2, "4c 2g 1h|4", "2 3"},
		{9, "0h|", 1, 1, "|0", ""},
		{9, "|1 2 3 0", 2, 2, "|3 0", "1 2"},
		{9, "|1 2 3 0", 1, 1, "|0", "1 2 3"},
		{9, "|", 1, 1, "|", ""},
	})
}

// P12.3: of what is Gone behind all that, the last ones are forgotten.
func TestResizeForgets(t *testing.T) {
	size(t, []sizing{
		{5, "3g 4g 5g 6g 7g 1h|", 5, 5, "3g 4g 5g 6g 7g 1h|", ""},
		{5, "3g 4g 5g 6g 7g 1h|", 4, 4, "3g 4g 5g 6g 1h|", ""},
		{5, "3g 4g 5g 6g 7g 1h|", 2, 2, "3g 4g 1h|", ""},
		{5, "3g 4g 5g 6g 7g 1h|", 1, 1, "|1", ""},
		{5, "2c 0c 3g 1h 4g mh|0 2", 3, 3, "2c 0g 3g 1h 4g mh|2", "0"},
		{5, "2c 0c 3g 1h 4g 5g mh|0 2", 3, 3, "2c 0g 3g 1h 4g mh|2", "0"},
		{5, "2c 0c 3g 1h 4g 5g mh|0 2", 2, 2, "2g 0g 1h|m", "0 2"},
	})
}

// P12.3: where the new capacity has room for several cold keys, those that are cooled aren't evicted with the others.
func TestResizeToMany(t *testing.T) {
	all := of(Hot, run(1, 390))
	s, evicted := Resize(ofCalls(State{400, slices.Concat(of(Cold, list(901)), all), list(902, 901)}), 390)
	sameState(t, "Resize to 390", s, State{390, slices.Concat(of(Gone, list(901)), all[:387]), list(390, 389, 388)})
	same(t, "evicted", evicted, list(902, 901))
	s, evicted = Resize(s, 299)
	sameState(t, "Resize to 299", s, State{299, slices.Concat(of(Gone, list(901)), all[:297]), list(299, 298)})
	same(t, "evicted", evicted, backward(run(300, 390)))
	s, evicted = Resize(s, 200)
	sameState(t, "Resize to 200", s, State{200, slices.Concat(of(Gone, list(901)), all[:198]), list(200, 199)})
	same(t, "evicted", evicted, backward(run(201, 299)))
	s, evicted = Resize(s, 199)
	sameState(t, "Resize to 199", s, State{199, slices.Concat(of(Gone, list(901)), all[:198]), list(199)})
	same(t, "evicted", evicted, list(200))
}

// The document's example, and example 8 of the whole.
func TestExample(t *testing.T) {
	s, _ := Admit(New(2), 1)
	s, _ = Admit(s, 2)
	s, evicted := Admit(s, 3)
	same(t, "evicted", evicted, list(2))
	sameState(t, "1, 2, 3", s, written(2, "3c 2g 1h|3"))
}
