package arc

import (
	"fmt"
	"math"
	"math/rand/v2"
	"slices"
	"strconv"
	"strings"
	"testing"
)

const greatest = math.MaxUint64

// mark is what a test writes over lists: no list of a test has it as a key, nor one of those above it.
const mark = 0xdead0000

// list writes a list of keys shortly.
func list(keys ...uint64) []uint64 { return keys }

// run is a list of the keys from one on to another one, with both.
func run(from, to uint64) []uint64 {
	l := make([]uint64, to-from+1)
	for i := range l {
		l[i] = from + uint64(i)
	}
	return l
}

// keys writes them still shorter: "g" is the greatest one.
func keys(text string) []uint64 {
	var l []uint64
	for _, word := range strings.Fields(text) {
		k, err := strconv.ParseUint(word, 10, 64)
		if err != nil {
			k = greatest
		}
		l = append(l, k)
	}
	return l
}

// written is a state that is written out: T1, T2, B1 and B2, with bars between.
func written(c, p int, text string) State {
	l := strings.Split(text, "|")
	return State{c, p, keys(l[0]), keys(l[1]), keys(l[2]), keys(l[3])}
}

// listsOf are a state's lists.
func listsOf(s State) [][]uint64 { return [][]uint64{s.T1, s.T2, s.B1, s.B2} }

// admitted has a list's keys admitted, so that its first one comes last.
func admitted(s State, l []uint64) State {
	for _, k := range slices.Backward(l) {
		s, _ = Admit(s, k)
	}
	return s
}

// used has them admitted, and each of them touched.
func used(s State, l []uint64) State {
	for _, k := range slices.Backward(l) {
		s, _ = Admit(s, k)
		s = Touch(s, k)
	}
	return s
}

// dropped has all of them dropped.
func dropped(s State, l []uint64) State {
	for _, k := range l {
		s = Drop(s, k)
	}
	return s
}

// reached is a state that is written out, reached by calls. What is to be remembered is evicted by others, of which as many as the target come again out of a B1 that has no less keys than B2.
func reached(want State) State {
	n := want.P + len(want.B1) + len(want.B2) + 1
	once := run(mark+1, mark+uint64(n))
	often := run(mark+uint64(n)+1, mark+3*uint64(n))
	s := admitted(New(8*(n+want.C)), slices.Concat(want.B1, once))
	s = used(used(s, want.B2), often)
	s, _ = Resize(s, len(often))
	s = admitted(dropped(s, often), once[:want.P])
	s, _ = Resize(dropped(s, once), 8*(n+want.C))
	s = admitted(used(s, want.T2), want.T1)
	s, _ = Resize(s, want.C)
	return s
}

// state is a state that is written out, of calls, so that no test begins with one that can't be.
func state(c, p int, text string) State {
	want := written(c, p, text)
	s := reached(want)
	if !equal(s, want) {
		panic(fmt.Sprintf("not reached by calls: %d, but %d", want, s))
	}
	return s
}

func same(t *testing.T, what string, got, want []uint64) {
	t.Helper()
	if !slices.Equal(got, want) {
		t.Errorf("%s: %d, not %d", what, got, want)
	}
}

func equal(a, b State) bool {
	return a.C == b.C && a.P == b.P && slices.EqualFunc(listsOf(a), listsOf(b), slices.Equal)
}

// sameState holds a state against another one.
func sameState(t *testing.T, what string, got, want State) {
	t.Helper()
	if !equal(got, want) {
		t.Errorf("%s: %d, not %d", what, got, want)
	}
}

// admission is one of a key to a state: what it leads to, and what is evicted.
type admission struct {
	s       State
	k       uint64
	want    State
	evicted string
}

// admits tries admissions.
func admits(t *testing.T, all []admission) {
	t.Helper()
	for _, a := range all {
		what := fmt.Sprintf("Admit %d to %d", a.k, a.s)
		got, evicted := Admit(a.s, a.k)
		sameState(t, what, got, a.want)
		same(t, what+", evicted", evicted, keys(a.evicted))
	}
}

// What state builds is what was asked for, so that the tests below begin where they say; and all states that are tried come of calls.
func TestStates(t *testing.T) {
	for c := 1; c <= 4; c++ {
		for _, s := range shapes(c) {
			sameState(t, "state", reached(s), s)
		}
	}
	sameState(t, "state", state(9, 7, "1 0|2 3 4|5 6 g|7 8 9"), State{9, 7, list(1, 0), list(2, 3, 4), list(5, 6, greatest), list(7, 8, 9)})
	sameState(t, "state", state(1048576, 3, "1|2|3|4"), State{1048576, 3, list(1), list(2), list(3), list(4)})
}

// P11.1: New, of capacities below 1, from 1 on, the greatest one, and above it.
func TestNew(t *testing.T) {
	for _, c := range []struct{ c, want int }{
		{math.MinInt, 1}, {-1, 1}, {0, 1}, {1, 1}, {2, 2}, {3, 3}, {7, 7},
		{1048575, 1048575}, {1048576, 1048576}, {1048577, 1048576}, {math.MaxInt, 1048576},
	} {
		s := New(c.c)
		sameState(t, "New", s, State{C: c.want})
		if len(Keys(s)) > 0 || Ghosts(s) != 0 || Has(s, 0) || Has(s, greatest) {
			t.Errorf("%d: %d", c.c, s)
		}
	}
}

// P11.1: Touch of a key in T1, of one in T2, each at the front, in the middle and at the back, of one that is remembered, and of one that is nowhere.
func TestTouch(t *testing.T) {
	full := state(7, 3, "1 2 0|4 5 g|6 7|8 9 10")
	for _, c := range []struct {
		s    State
		k    uint64
		want State
	}{
		{full, 1, written(7, 3, "2 0|1 4 5 g|6 7|8 9 10")},
		{full, 2, written(7, 3, "1 0|2 4 5 g|6 7|8 9 10")},
		{full, 0, written(7, 3, "1 2|0 4 5 g|6 7|8 9 10")},
		{full, 4, full},
		{full, 5, written(7, 3, "1 2 0|5 4 g|6 7|8 9 10")},
		{full, greatest, written(7, 3, "1 2 0|g 4 5|6 7|8 9 10")},
		{full, 6, full},
		{full, 7, full},
		{full, 8, full},
		{full, 10, full},
		{full, 11, full},
		{full, 1<<32 | 1, full},
		{New(1), 0, New(1)},
		{New(2), greatest, New(2)},
		{state(1, 0, "0|||"), 0, written(1, 0, "|0||")},
		{state(1, 1, "|g||"), greatest, written(1, 1, "|g||")},
		{state(1, 1, "|g||"), 0, written(1, 1, "|g||")},
		{state(2, 1, "0 1|||"), 1, written(2, 1, "0|1||")},
	} {
		sameState(t, fmt.Sprintf("Touch %d of %d", c.k, c.s), Touch(c.s, c.k), c.want)
	}
}

// P11.2: Admit of a key that is there, in T1 or in T2, where it stays in its place: full or not, nothing is evicted.
func TestAdmitOfAKey(t *testing.T) {
	for _, s := range []State{
		state(9, 4, "1 2 0|4 5 g|6 7|8 9 10"), state(6, 3, "1 2 0|4 5 g|6 7|8 9 10"), state(1, 0, "0|||"), state(1, 1, "|g||"),
	} {
		for _, k := range Keys(s) {
			admits(t, []admission{{s, k, s, ""}})
		}
	}
}

// P11.2: Admit of a key that is in B1, with room: how far the target goes with B1 shorter than B2, as long, and longer, from 0, from between, and at the capacity.
func TestTargetGoesUp(t *testing.T) {
	for _, c := range []struct {
		p      int
		b1, b2 string
		want   int
	}{
		{0, "1", "2 3 4", 3}, {0, "1 2", "3 4 5 6", 2}, {0, "1 2", "3 4 5 6 7", 2}, {0, "1 2", "3 4 5", 1},
		{0, "1 2", "3 4", 1}, {0, "1", "2", 1}, {0, "1 2 3 4", "5", 1}, {0, "1 2 3", "", 1}, {0, "1", "2 3 4 5 6 7 8", 7},
		{3, "1", "2 3 4", 6}, {3, "1", "2 3 4 5 6", 8}, {3, "1", "2 3 4 5 6 7", 8}, {3, "1 2", "3 4", 4}, {3, "1 2 3", "4 5", 4},
		{7, "1", "2 3 4", 8}, {7, "1 2 3", "4", 8}, {7, "1", "2", 8},
		{8, "1", "2 3 4", 8}, {8, "1 2", "3 4", 8}, {8, "1 2 3", "4", 8}, {8, "1", "", 8},
	} {
		s := state(8, c.p, "11|12|"+c.b1+"|"+c.b2)
		for _, k := range s.B1 {
			others := slices.DeleteFunc(slices.Clone(s.B1), func(o uint64) bool { return o == k })
			admits(t, []admission{{s, k, State{8, c.want, list(11), list(k, 12), others, s.B2}, ""}})
		}
	}
}

// P11.2: Admit of a key that is in B2, with room: likewise.
func TestTargetGoesDown(t *testing.T) {
	for _, c := range []struct {
		p      int
		b1, b2 string
		want   int
	}{
		{8, "2 3 4", "1", 5}, {8, "3 4 5 6", "1 2", 6}, {8, "3 4 5 6 7", "1 2", 6}, {8, "3 4 5", "1 2", 7},
		{8, "3 4", "1 2", 7}, {8, "2", "1", 7}, {8, "5", "1 2 3 4", 7}, {8, "", "1 2 3", 7}, {8, "2 3 4 5 6 7 8", "1", 1},
		{5, "2 3 4", "1", 2}, {5, "2 3 4 5 6", "1", 0}, {5, "2 3 4 5 6 7", "1", 0}, {5, "3 4", "1 2", 4}, {5, "4 5", "1 2 3", 4},
		{1, "2 3 4", "1", 0}, {1, "4", "1 2 3", 0}, {1, "2", "1", 0},
		{0, "2 3 4", "1", 0}, {0, "3 4", "1 2", 0}, {0, "4", "1 2 3", 0}, {0, "", "1", 0},
	} {
		s := state(8, c.p, "11|12|"+c.b1+"|"+c.b2)
		for _, k := range s.B2 {
			others := slices.DeleteFunc(slices.Clone(s.B2), func(o uint64) bool { return o == k })
			admits(t, []admission{{s, k, State{8, c.want, list(11), list(k, 12), s.B1, others}, ""}})
		}
	}
}

// P11.2: Admit of a key that is in B1, without room: it is replaced by the target that it leads to, not again.
func TestAdmitOutOfB1(t *testing.T) {
	admits(t, []admission{
		// T1 has more than P.
		{state(4, 0, "1 2|3 4|5 6|7 8"), 5, written(4, 1, "1|5 3 4|2 6|7 8"), "2"},
		{state(4, 0, "1 2|3 4|5 6|7 8"), 6, written(4, 1, "1|6 3 4|2 5|7 8"), "2"},
		{state(6, 0, "1 2 0|4 5 g|6|7 8"), 6, written(6, 2, "1 2|6 4 5 g|0|7 8"), "0"},
		// It has just P.
		{state(4, 1, "1 2|3 4|5 6|7 8"), 5, written(4, 2, "1 2|5 3|6|4 7 8"), "4"},
		{state(3, 0, "1 2|3|4|5 6"), 4, written(3, 2, "1 2|4||3 5 6"), "3"},
		{state(6, 0, "1 2 3|4 5 g|6|7 8 0"), 6, written(6, 3, "1 2 3|6 4 5||g 7 8 0"), "g"},
		// It has less than P.
		{state(4, 4, "1 2|3 4|5 6|7 8"), 5, written(4, 4, "1 2|5 3|6|4 7 8"), "4"},
		{state(4, 2, "1|3 4 5|6 7|8 9"), 7, written(4, 3, "1|7 3 4|6|5 8 9"), "5"},
		{state(2, 2, "1|2|g|"), greatest, written(2, 2, "1|g||2"), "2"},
		// It has none.
		{state(2, 0, "|1 2|0|3"), 0, written(2, 1, "|0 1||2 3"), "2"},
		{state(1, 0, "|1|2|"), 2, written(1, 1, "|2||1"), "1"},
		{state(1, 1, "|g|0|"), 0, written(1, 1, "|0||g"), "g"},
	})
}

// P11.2: Admit of a key that is in B2, without room: it is replaced by the target that it leads to, again.
func TestAdmitOutOfB2(t *testing.T) {
	admits(t, []admission{
		// T1 has less than P.
		{state(4, 4, "1 2|3 4|5 6|7 8"), 7, written(4, 3, "1 2|7 3|5 6|4 8"), "4"},
		{state(6, 6, "1 2|4 5 g 3|6 7 8|0"), 0, written(6, 3, "1 2|0 4 5 g|6 7 8|3"), "3"},
		// It has just P.
		{state(4, 3, "1 2|3 4|5 6|7 8"), 8, written(4, 2, "1|8 3 4|2 5 6|7"), "2"},
		{state(6, 6, "1 2 3|4 5 g|6 7 8|0"), 0, written(6, 3, "1 2|0 4 5 g|3 6 7 8|"), "3"},
		// It has more than P.
		{state(4, 2, "1 2|3 4|5 6|7 8"), 7, written(4, 1, "1|7 3 4|2 5 6|8"), "2"},
		{state(4, 0, "1 2|3 4|5 6|7 8"), 8, written(4, 0, "1|8 3 4|2 5 6|7"), "2"},
		// It has none, just P or less.
		{state(2, 0, "|1 2||3 4"), 4, written(2, 0, "|4 1||2 3"), "2"},
		{state(2, 1, "|1 2|0|3"), 3, written(2, 0, "|3 1|0|2"), "2"},
		{state(2, 2, "|1 2|0|g"), greatest, written(2, 1, "|g 1|0|2"), "2"},
		{state(1, 0, "|1||2"), 2, written(1, 0, "|2||1"), "1"},
		// T2 has none.
		{state(2, 2, "1 2|||3 4"), 3, written(2, 1, "1|3|2|4"), "2"},
		{state(3, 0, "1 2 3|||4 5 0"), 5, written(3, 0, "1 2|5|3|4 0"), "3"},
		{state(1, 1, "0|||g"), greatest, written(1, 0, "|g|0|"), "0"},
	})
}

// P11.2: Admit of a key that is nowhere, with room: nothing is evicted, but B1 loses a key where T1 has no room for one more beside it.
func TestAdmitWithRoom(t *testing.T) {
	admits(t, []admission{
		{New(1), 0, written(1, 0, "0|||"), ""},
		{New(-5), greatest, written(1, 0, "g|||"), ""},
		{state(1048576, 2, "1|2|3|4"), 0, written(1048576, 2, "0 1|2|3|4"), ""},
		{state(6, 2, "1|2|3|4"), 5, written(6, 2, "5 1|2|3|4"), ""},
		{state(4, 2, "1|2|3|4"), 5, written(4, 2, "5 1|2|3|4"), ""},
		{state(3, 2, "1|2|3|4"), 5, written(3, 2, "5 1|2|3|4"), ""},
		{state(2, 0, "1|||"), 0, written(2, 0, "0 1|||"), ""},
		{state(2, 0, "|1||2 3"), 0, written(2, 0, "0|1||2 3"), ""},
		{state(3, 3, "||1|2 3"), 0, written(3, 3, "0||1|2 3"), ""},
		{state(4, 2, "1|2|3 4 5|6"), 7, written(4, 2, "7 1|2|3 4|6"), ""},
		{state(4, 0, "1 2|3|4 5|6 0"), 7, written(4, 0, "7 1 2|3|4|6 0"), ""},
		{state(2, 1, "||1 0|"), 7, written(2, 1, "7||1|"), ""},
	})
}

// P11.2: Admit of a key that is nowhere, where T1 and B1 have the capacity together, with keys in B1 and with none: without any, what is evicted isn't remembered.
func TestAdmitAsLong(t *testing.T) {
	admits(t, []admission{
		{state(4, 1, "1 2|3 4|5 6|7 8"), 9, written(4, 1, "9 1|3 4|2 5|7 8"), "2"},
		{state(4, 1, "1 2|3 4|5 6|"), 9, written(4, 1, "9 1|3 4|2 5|"), "2"},
		{state(4, 2, "1 2|3 4|5 6|7 8"), 9, written(4, 2, "9 1 2|3|5|4 7 8"), "4"},
		{state(4, 3, "1 2|3 4|5 6|7 8"), 9, written(4, 3, "9 1 2|3|5|4 7 8"), "4"},
		{state(4, 0, "1 2 3|4|5|6 7"), 9, written(4, 0, "9 1 2|4|3|6 7"), "3"},
		{state(2, 0, "|1 2|3 4|"), 5, written(2, 0, "5|1|3|2"), "2"},
		{state(1, 0, "|0|g|"), 5, written(1, 0, "5|||0"), "0"},
		{state(2, 0, "1 2|||"), 3, written(2, 0, "3 1|||"), "2"},
		{state(2, 2, "1 2|||3 4"), 5, written(2, 2, "5 1|||3 4"), "2"},
		{state(3, 1, "1 2 g|||4"), 5, written(3, 1, "5 1 2|||4"), "g"},
		{state(1, 1, "0|||"), greatest, written(1, 1, "g|||"), "0"},
		{state(1, 0, "0|||5"), greatest, written(1, 0, "g|||5"), "0"},
	})
}

// P11.2: Admit of a key that is nowhere, where T1 and B1 have less than the capacity together, and all lists as many, more, and twice as many: then B2 loses a key.
func TestAdmitShorter(t *testing.T) {
	admits(t, []admission{
		// As many: none is remembered.
		{state(3, 0, "1|2 3||"), 4, written(3, 0, "4|2 3|1|"), "1"},
		{state(3, 1, "1|2 3||"), 4, written(3, 1, "4 1|2||3"), "3"},
		{state(3, 2, "1|2 3||"), 4, written(3, 2, "4 1|2||3"), "3"},
		{state(2, 0, "|1 2||"), 3, written(2, 0, "3|1||2"), "2"},
		{state(1, 0, "|1||"), 2, written(1, 0, "2|||1"), "1"},
		// More, with keys in B2 and with none.
		{state(3, 0, "1|2 3|4|5"), 6, written(3, 0, "6|2 3|1 4|5"), "1"},
		{state(3, 0, "1|2 3|4|"), 6, written(3, 0, "6|2 3|1 4|"), "1"},
		{state(3, 1, "1|2 3||4 5"), 6, written(3, 1, "6 1|2||3 4 5"), "3"},
		{state(2, 1, "|1 2|3|"), 4, written(2, 1, "4|1|3|2"), "2"},
		// One less than twice as many, and twice as many.
		{state(2, 1, "|1 2||3"), 4, written(2, 1, "4|1||2 3"), "2"},
		{state(2, 0, "|1 2||3 4"), 5, written(2, 0, "5|1||2 3"), "2"},
		{state(3, 1, "1|2 3||4 5 0"), 6, written(3, 1, "6 1|2||3 4 5"), "3"},
		{state(3, 0, "1|2 3||4 5 0"), 6, written(3, 0, "6|2 3|1|4 5"), "1"},
		{state(3, 0, "1|2 3|4|5 6"), 7, written(3, 0, "7|2 3|1 4|5"), "1"},
		{state(1, 1, "|g||0"), 1, written(1, 1, "1|||g"), "g"},
	})
}

// P11.2: what fell off B1, or B2, counts as new: the target stays.
func TestWhatFellIsNew(t *testing.T) {
	s, _ := Admit(state(4, 1, "1 2|3 4|5 6|7 8"), 9)
	admits(t, []admission{{s, 6, written(4, 1, "6 9|3 4|1 2|7 8"), "1"}})
	s, _ = Admit(state(3, 1, "1|2 3||4 5 0"), 6)
	admits(t, []admission{{s, 0, written(3, 1, "0 6|2|1|3 4"), "1"}})
	s, _ = Admit(state(2, 0, "1 2|||"), 3)
	admits(t, []admission{{s, 2, written(2, 0, "2 3|||"), "1"}})
}

// P11.1: Drop of a key of each list, and of one that is in none; what is dropped isn't remembered, and makes room.
func TestDrop(t *testing.T) {
	s := state(7, 3, "1 2 0|4 5 g|6 7 8|9 10 11")
	for _, c := range []struct {
		k    uint64
		want string
	}{
		{1, "2 0|4 5 g|6 7 8|9 10 11"}, {2, "1 0|4 5 g|6 7 8|9 10 11"}, {0, "1 2|4 5 g|6 7 8|9 10 11"},
		{4, "1 2 0|5 g|6 7 8|9 10 11"}, {5, "1 2 0|4 g|6 7 8|9 10 11"}, {greatest, "1 2 0|4 5|6 7 8|9 10 11"},
		{6, "1 2 0|4 5 g|7 8|9 10 11"}, {7, "1 2 0|4 5 g|6 8|9 10 11"}, {8, "1 2 0|4 5 g|6 7|9 10 11"},
		{9, "1 2 0|4 5 g|6 7 8|10 11"}, {10, "1 2 0|4 5 g|6 7 8|9 11"}, {11, "1 2 0|4 5 g|6 7 8|9 10"},
		{12, "1 2 0|4 5 g|6 7 8|9 10 11"}, {1<<32 | 1, "1 2 0|4 5 g|6 7 8|9 10 11"},
	} {
		got := Drop(s, c.k)
		sameState(t, fmt.Sprint("Drop ", c.k), got, written(7, 3, c.want))
		if Has(got, c.k) {
			t.Errorf("Has %d behind a Drop", c.k)
		}
	}
	sameState(t, "Drop of none", Drop(New(1), 0), New(1))
	full := state(4, 1, "1 2|3 4|5|6 7")
	admits(t, []admission{
		{Drop(full, 4), 9, written(4, 1, "9 1 2|3|5|6 7"), ""},
		{Drop(full, 1), 1, written(4, 1, "1 2|3 4|5|6 7"), ""},
		{Drop(full, 5), 5, written(4, 1, "5 1|3 4|2|6 7"), "2"},
		{Drop(full, 6), 6, written(4, 1, "6 1|3 4|2 5|7"), "2"},
	})
}

// resizes tries a Resize of a state.
func resizes(t *testing.T, s State, c int, want State, evicted string) {
	t.Helper()
	what := fmt.Sprintf("Resize %d of %d", c, s)
	got, out := Resize(s, c)
	sameState(t, what, got, want)
	same(t, what+", evicted", out, keys(evicted))
}

// P11.3, P6: Resize to more, to the same, to less, to 1, below 1, and above the greatest one, with the target below the new capacity and above it: T1 is evicted down to it, T2 behind it; keys fall off B1 beside T1, and then off B2 beside B1.
func TestResize(t *testing.T) {
	const text = "1 2 3 4|5 6 7 8|11 12 13|14 15 16 17 18"
	s := state(8, 3, text)
	resizes(t, s, math.MaxInt, written(1048576, 3, text), "")
	resizes(t, s, 1048577, written(1048576, 3, text), "")
	resizes(t, s, 1048576, written(1048576, 3, text), "")
	resizes(t, s, 9, written(9, 3, text), "")
	resizes(t, s, 8, s, "")
	resizes(t, s, 7, written(7, 3, "1 2 3|5 6 7 8|4 11 12 13|14 15 16"), "4")
	resizes(t, s, 6, written(6, 3, "1 2 3|5 6 7|4 11 12|8 14 15"), "4 8")
	resizes(t, s, 5, written(5, 3, "1 2 3|5 6|4 11|7 8 14"), "4 8 7")
	resizes(t, s, 4, written(4, 3, "1 2 3|5|4|6 7 8"), "4 8 7 6")
	resizes(t, s, 3, written(3, 3, "1 2 3|||5 6 7"), "4 8 7 6 5")
	resizes(t, s, 2, written(2, 2, "1 2|||5 6"), "4 3 8 7 6 5")
	for _, c := range []int{1, 0, -1, math.MinInt} {
		resizes(t, s, c, written(1, 1, "1|||5"), "4 3 2 8 7 6 5")
	}
	more, _ := Resize(s, 9)
	admits(t, []admission{{more, 9, written(9, 3, "9 "+text), ""}})
}

// P11.3: Resize of states without a target, without keys in T1 or in T2, and where keys that are remembered fall alone.
func TestResizeOfOthers(t *testing.T) {
	none := state(8, 0, "1 2|3 4 5 6|7|8")
	resizes(t, none, 6, written(6, 0, "1 2|3 4 5 6|7|8"), "")
	resizes(t, none, 5, written(5, 0, "1|3 4 5 6|2 7|8"), "2")
	resizes(t, none, 4, written(4, 0, "|3 4 5 6|1 2 7|8"), "2 1")
	resizes(t, none, 3, written(3, 0, "|3 4 5|1 2 7|"), "2 1 6")
	resizes(t, none, 2, written(2, 0, "|3 4|1 2|"), "2 1 6 5")
	resizes(t, none, 0, written(1, 0, "|3|1|"), "2 1 6 5 4")
	resizes(t, state(4, 4, "1 2 3 g|||5"), 2, written(2, 2, "1 2|||5"), "g 3")
	resizes(t, state(4, 0, "0 2 3 4|||5 6"), 1, written(1, 0, "0|||5"), "4 3 2")
	resizes(t, state(4, 2, "|1 2 3 4|5|6"), 2, written(2, 2, "|1 2|5|3"), "4 3")
	resizes(t, state(4, 4, "1 2|3 4||"), 3, written(3, 3, "1 2|3||4"), "4")
	remembered := state(8, 8, "1|2|3 4 5 6|7 8 9 10")
	resizes(t, remembered, 7, written(7, 7, "1|2|3 4 5 6|7 8 9"), "")
	resizes(t, remembered, 5, written(5, 5, "1|2|3 4 5 6|7"), "")
	resizes(t, remembered, 4, written(4, 4, "1|2|3 4 5|7"), "")
	resizes(t, remembered, 2, written(2, 2, "1|2|3|7"), "")
	resizes(t, state(8, 5, "||1 2 3|4 5 6"), 4, written(4, 4, "||1 2 3|4"), "")
	resizes(t, state(8, 5, "||1 2 3|4 5 6"), 2, written(2, 2, "||1 2|"), "")
	resizes(t, state(8, 1, "|||1 2 3 4 5"), 3, written(3, 1, "|||1 2 3"), "")
	resizes(t, New(3), 5, New(5), "")
	resizes(t, New(3), 0, New(1), "")
}

// P11.4: Has, Keys and Ghosts: of keys in T1 and in T2, that are remembered, that fell, and that never were.
func TestAsked(t *testing.T) {
	s := state(7, 3, "1 2 0|4 5 g|6 7 8|9 10")
	for _, k := range keys("1 2 0 4 5 g") {
		if !Has(s, k) {
			t.Errorf("Has not %d", k)
		}
	}
	for _, k := range list(6, 7, 8, 9, 10, 11, 1<<32, 1<<32|1) {
		if Has(s, k) {
			t.Errorf("Has %d", k)
		}
	}
	same(t, "Keys", Keys(s), keys("1 2 0 4 5 g"))
	same(t, "Keys of T1", Keys(state(6, 1, "0 1||3|4")), list(0, 1))
	same(t, "Keys of T2", Keys(state(6, 1, "|0 1|3|4")), list(0, 1))
	same(t, "Keys of none", Keys(state(6, 1, "||3|4")), nil)
	for want, text := range []string{"1 2|3||", "1 2|3|4|", "1 2|3|4|5", "1 2|3|4|5 6", "||4 5|6 7"} {
		if g := Ghosts(state(5, 0, text)); g != want {
			t.Errorf("Ghosts of %s: %d", text, g)
		}
	}
	s, evicted := Admit(state(4, 1, "1 2|3 4|5 6|7 8"), 9)
	same(t, "evicted", evicted, list(2))
	if Has(s, 2) || Has(s, 6) || !Has(s, 9) || Ghosts(s) != 4 {
		t.Errorf("Has, or Ghosts, of %d", s)
	}
}

// P11.6, P7: where nothing is hit, and no key comes again, the keys that came first are evicted first, as by least recently used, whatever is dropped and resized meanwhile.
func TestLikeLeastRecentlyUsed(t *testing.T) {
	for seed := range uint64(40) {
		r := rand.New(rand.NewPCG(seed, 116))
		c := 1 + r.IntN(20)
		s := New(c)
		var queue, evicted, want []uint64
		for k := range uint64(400) {
			switch n := r.IntN(40); {
			case n == 0:
				c = 1 + r.IntN(20)
				s, evicted = Resize(s, c)
			case n < 4 && len(queue) > 0:
				at := r.IntN(len(queue))
				s, evicted = Drop(s, queue[at]), nil
				queue = slices.Delete(queue, at, at+1)
			default:
				s, evicted = Admit(s, k)
				queue = append(queue, k)
			}
			gone := max(len(queue)-c, 0)
			want, queue = queue[:gone], queue[gone:]
			same(t, "evicted", evicted, want)
			there := slices.Clone(queue)
			slices.Reverse(there)
			same(t, "Keys", Keys(s), there)
		}
	}
}

// The document's example: of capacity 2, 1, 2, 1 again, 3.
func TestExample(t *testing.T) {
	s := Touch(admitted(New(2), list(2, 1)), 1)
	s, evicted := Admit(s, 3)
	same(t, "evicted", evicted, list(2))
	sameState(t, "behind 3", s, written(2, 0, "3|1|2|"))
}
