package arena

import (
	"math"
	"slices"
	"testing"
)

// nodeOf is a node with no field zero, another one for each n above 0.
func nodeOf(n int) Node {
	return Node{Key: uint64(n), Val: math.MaxUint64 - uint64(n), Flag: n, Tag: -n, Prev: int32(n), Next: -int32(n)}
}

// taken takes so many slots.
func taken(a *Arena, n int) []int32 {
	var got []int32
	for range n {
		got = append(got, a.Alloc())
	}
	return got
}

// model is an arena told plainly: by maps, and by looking everything through.
type model struct {
	first, slots int
	nodes        map[int32]Node // of those that are taken
	ever         map[int32]bool // whether it was taken at some time
	freed        []int32
	most         int // how many were taken at once
}

func newModel(slots int) *model {
	return &model{first: slots, slots: slots, nodes: map[int32]Node{}, ever: map[int32]bool{}}
}

func (m *model) alloc() int32 {
	var i int32
	if n := len(m.freed); n > 0 {
		i = m.freed[n-1]
		m.freed = slices.Clone(m.freed[:n-1])
	} else {
		i = 1
		for m.ever[i] {
			i++
		}
		if int(i) == m.slots {
			m.slots *= 2
		}
	}
	m.ever[i] = true
	m.nodes[i] = Node{}
	m.most = max(m.most, len(m.nodes))
	return i
}

func (m *model) free(i int32) bool {
	if _, ok := m.nodes[i]; !ok {
		return false
	}
	delete(m.nodes, i)
	m.freed = append(m.freed, i)
	return true
}

func (m *model) set(i int32, n Node) bool {
	if _, ok := m.nodes[i]; !ok {
		return false
	}
	m.nodes[i] = n
	return true
}

// same holds all that the arena tells against the model, at the slots, behind them and below 0.
func (m *model) same(t *testing.T, a *Arena) {
	t.Helper()
	if a.Live() != len(m.nodes) || a.Len() != m.slots {
		t.Fatalf("Live %d, Len %d, not %d, %d", a.Live(), a.Len(), len(m.nodes), m.slots)
	}
	if a.Len() > max(m.first, 2*m.most) {
		t.Fatalf("%d slots, though %d were taken at once", a.Len(), m.most)
	}
	for i := int32(-2); int(i) < m.slots+3; i++ {
		n, ok := m.nodes[i]
		if a.Is(i) != ok || a.At(i) != n {
			t.Fatalf("slot %d: %t, %v, not %t, %v", i, a.Is(i), a.At(i), ok, n)
		}
	}
}

// P3.1
func TestNewHasSlotZeroAndItsRoom(t *testing.T) {
	for _, c := range []struct{ room, slots int }{
		{0, 2}, {-1, 2}, {math.MinInt32, 2}, {math.MinInt64, 2},
		{1, 2}, {2, 3}, {3, 4}, {7, 8}, {100, 101},
		{1048575, 1048576}, {1048576, 1048577}, {1048577, 1048577}, {math.MaxInt32, 1048577}, {math.MaxInt64, 1048577},
	} {
		a := New(c.room)
		if a.Len() != c.slots || a.Live() != 0 {
			t.Errorf("room %d: %d slots, %d taken", c.room, a.Len(), a.Live())
		}
		for _, i := range []int32{0, 1, 2, int32(c.slots - 1), int32(c.slots)} {
			if a.Is(i) || a.At(i) != (Node{}) || a.Set(i, nodeOf(1)) || a.Free(i) {
				t.Errorf("room %d: slot %d is taken", c.room, i)
			}
		}
		if got := a.Alloc(); got != 1 || a.Len() != c.slots {
			t.Errorf("room %d: the first one is %d, of %d", c.room, got, a.Len())
		}
	}
}

// P3.1: a room below 1 counts as 1 all along.
func TestRoomsBelowOneCountAsOne(t *testing.T) {
	for _, room := range []int{1, 0, -1, math.MinInt64} {
		a := New(room)
		for i, slots := range []int{2, 4, 4, 8, 8, 8, 8, 16} {
			if got := a.Alloc(); int(got) != i+1 || a.Len() != slots {
				t.Errorf("room %d: took %d, of %d slots", room, got, a.Len())
			}
		}
	}
}

// P3.1: all of the greatest room is there ahead of any more slots.
func TestTheGreatestRoom(t *testing.T) {
	for _, room := range []int{1048576, 1048577} {
		a := New(room)
		for i := int32(1); i <= 1048576; i++ {
			if got := a.Alloc(); got != i {
				t.Fatalf("room %d: took %d, not %d", room, got, i)
			}
		}
		if a.Len() != 1048577 || a.Live() != 1048576 {
			t.Fatalf("room %d: %d slots, %d taken", room, a.Len(), a.Live())
		}
		a.Set(1048576, nodeOf(5))
		if got := a.Alloc(); got != 1048577 || a.Len() != 2097154 || a.At(1048576) != nodeOf(5) {
			t.Fatalf("room %d: took %d, of %d slots", room, got, a.Len())
		}
	}
}

// P3.1: slot 0 is never taken, whatever is done to it.
func TestSlotZeroIsNeverTaken(t *testing.T) {
	a := New(2)
	for range 50 {
		if a.Alloc() == 0 || a.Is(0) || a.Free(0) || a.Set(0, nodeOf(1)) || a.At(0) != (Node{}) {
			t.Fatal("slot 0")
		}
	}
	if a.Live() != 50 {
		t.Errorf("%d taken", a.Live())
	}
}

// P3.2
func TestSlotsAreTakenFromTheLeastOneOn(t *testing.T) {
	a := New(5)
	if got := taken(a, 5); !slices.Equal(got, []int32{1, 2, 3, 4, 5}) {
		t.Errorf("%v", got)
	}
	if a.Live() != 5 || a.Len() != 6 {
		t.Errorf("%d taken, of %d", a.Live(), a.Len())
	}
}

// P3.2: the one that was freed last comes first, in whichever order they were freed.
func TestTheOneThatWasFreedLastIsTakenFirst(t *testing.T) {
	for _, c := range []struct{ freed, again []int32 }{
		{[]int32{3}, []int32{3, 6, 7}},
		{[]int32{1, 2, 3}, []int32{3, 2, 1, 6}},
		{[]int32{3, 2, 1}, []int32{1, 2, 3, 6}},
		{[]int32{2, 5, 1}, []int32{1, 5, 2, 6}},
		{[]int32{1, 2, 3, 4, 5}, []int32{5, 4, 3, 2, 1, 6}},
		{[]int32{5, 4, 3, 2, 1}, []int32{1, 2, 3, 4, 5, 6}},
	} {
		a := New(8)
		taken(a, 5)
		for _, i := range c.freed {
			if !a.Free(i) {
				t.Errorf("%v: %d isn't freed", c.freed, i)
			}
		}
		if a.Live() != 5-len(c.freed) {
			t.Errorf("%v: %d taken", c.freed, a.Live())
		}
		if got := taken(a, len(c.again)); !slices.Equal(got, c.again) {
			t.Errorf("%v freed: %v taken, not %v", c.freed, got, c.again)
		}
		if a.Len() != 9 {
			t.Errorf("%v: %d slots", c.freed, a.Len())
		}
	}
}

// P3.2: those freed later come ahead of those freed earlier, though some were taken between.
func TestFreedAndTakenInTurn(t *testing.T) {
	a := New(6)
	taken(a, 6)
	a.Free(1)
	a.Free(4)
	a.Free(2)
	if got := taken(a, 2); !slices.Equal(got, []int32{2, 4}) {
		t.Errorf("%v", got)
	}
	a.Free(6)
	a.Free(2)
	if got := taken(a, 4); !slices.Equal(got, []int32{2, 6, 1, 7}) {
		t.Errorf("%v", got)
	}
	if a.Len() != 14 || a.Live() != 7 {
		t.Errorf("%d taken, of %d", a.Live(), a.Len())
	}
}

// P3.2: twice as many slots come only when none is free, and then once.
func TestSlotsComeTwiceAsMany(t *testing.T) {
	for _, first := range []int{2, 3, 4, 8, 11} {
		a := New(first - 1)
		slots := first
		for i := 1; i <= 5000; i++ {
			if i == slots {
				slots *= 2
			}
			if got := a.Alloc(); int(got) != i || a.Len() != slots || a.Live() != i {
				t.Fatalf("first %d: took %d, not %d; %d slots, not %d", first, got, i, a.Len(), slots)
			}
		}
	}
}

// P3.2: while freed ones are left, no more slots come.
func TestFreedSlotsComeAheadOfMore(t *testing.T) {
	a := New(3)
	taken(a, 3)
	for range 100 {
		a.Free(2)
		a.Free(3)
		if got := taken(a, 2); !slices.Equal(got, []int32{3, 2}) || a.Len() != 4 {
			t.Fatalf("%v, of %d", got, a.Len())
		}
	}
	if got := a.Alloc(); got != 4 || a.Len() != 8 {
		t.Errorf("%d, of %d", got, a.Len())
	}
}

// P3.2: all freed and taken again, on both sides of more slots.
func TestAllFreedBehindMoreSlots(t *testing.T) {
	a := New(1)
	for round := range 12 {
		all := taken(a, 1<<round)
		slots := a.Len()
		for _, i := range all {
			if !a.Free(i) {
				t.Fatalf("round %d: %d isn't freed", round, i)
			}
		}
		slices.Reverse(all)
		again := taken(a, len(all))
		if !slices.Equal(again, all) || a.Len() != slots || a.Live() != len(all) {
			t.Fatalf("round %d: %v, not %v", round, again, all)
		}
		for _, i := range again {
			a.Free(i)
		}
		if a.Live() != 0 || a.Len() != slots {
			t.Fatalf("round %d: %d taken, of %d", round, a.Live(), a.Len())
		}
	}
}

// P3.2: what a slot had is gone when it is freed, and when it is taken anew.
func TestTakenAnewIsZero(t *testing.T) {
	a := New(4)
	for _, i := range taken(a, 4) {
		if a.At(i) != (Node{}) {
			t.Errorf("%d: %v", i, a.At(i))
		}
		a.Set(i, nodeOf(int(i)))
	}
	for i := int32(1); i <= 4; i++ {
		a.Free(i)
		if a.At(i) != (Node{}) || a.Is(i) {
			t.Errorf("%d freed: %v", i, a.At(i))
		}
	}
	for _, i := range taken(a, 6) {
		if a.At(i) != (Node{}) || !a.Is(i) {
			t.Errorf("%d taken anew: %v", i, a.At(i))
		}
	}
}

// P3.2, P3.3: a slot that isn't taken is neither freed nor laid, and nothing is changed.
func TestSlotsThatAreNotTaken(t *testing.T) {
	a := New(6)
	taken(a, 4)
	a.Set(1, nodeOf(1))
	a.Set(3, nodeOf(3))
	a.Free(2)
	a.Free(4)
	for range 2 {
		for _, i := range []int32{math.MinInt32, math.MinInt32 + 1, -3, -1, 0, 2, 4, 5, 6, 7, 8, 1000, math.MaxInt32} {
			if a.Is(i) || a.Free(i) || a.Set(i, nodeOf(9)) || a.At(i) != (Node{}) {
				t.Errorf("slot %d", i)
			}
		}
	}
	if a.Live() != 2 || a.Len() != 7 || a.At(1) != nodeOf(1) || a.At(3) != nodeOf(3) {
		t.Errorf("%d taken, of %d", a.Live(), a.Len())
	}
	if got := taken(a, 4); !slices.Equal(got, []int32{4, 2, 5, 6}) {
		t.Errorf("%v", got)
	}
	for i := int32(1); i <= 6; i++ {
		if want := map[int32]Node{1: nodeOf(1), 3: nodeOf(3)}[i]; a.At(i) != want {
			t.Errorf("slot %d: %v", i, a.At(i))
		}
	}
}

// P3.2: freed twice, it is there once; taken again, it can be freed again.
func TestFreedTwice(t *testing.T) {
	a := New(3)
	taken(a, 3)
	if !a.Free(2) || a.Free(2) || a.Free(2) || a.Live() != 2 {
		t.Errorf("%d taken", a.Live())
	}
	if got := taken(a, 2); !slices.Equal(got, []int32{2, 4}) {
		t.Errorf("%v", got)
	}
	if !a.Is(2) || !a.Free(2) || a.Is(2) || a.Free(2) || a.Alloc() != 2 || !a.Is(2) || a.Live() != 4 {
		t.Errorf("taken again: %d taken", a.Live())
	}
}

// P3.3
func TestSetLaysOneSlotAlone(t *testing.T) {
	a := New(9)
	all := taken(a, 9)
	want := map[int32]Node{}
	for round := range 3 {
		for _, i := range all {
			want[i] = nodeOf(100*round + int(i))
			if !a.Set(i, want[i]) {
				t.Errorf("%d isn't laid", i)
			}
			for _, j := range all {
				if a.At(j) != want[j] {
					t.Fatalf("%d laid: %d has %v", i, j, a.At(j))
				}
			}
		}
	}
	if !a.Set(4, Node{}) || a.At(4) != (Node{}) || !a.Is(4) || a.Live() != 9 {
		t.Error("the zero Node")
	}
}

// P3.3: each field at its edges.
func TestNodesAreKeptWhole(t *testing.T) {
	a := New(1)
	i := a.Alloc()
	for _, n := range []Node{
		{Key: math.MaxUint64}, {Val: math.MaxUint64},
		{Flag: math.MinInt64}, {Flag: math.MaxInt64}, {Tag: math.MinInt64}, {Tag: math.MaxInt64},
		{Prev: math.MinInt32}, {Prev: math.MaxInt32}, {Next: math.MinInt32}, {Next: math.MaxInt32},
		{1, 2, 3, 4, 5, 6}, {},
	} {
		if !a.Set(i, n) || a.At(i) != n {
			t.Errorf("%v: %v", n, a.At(i))
		}
	}
}

// P3.3, R3: a node that was told stays as it was, and what is done to it shows in no slot.
func TestNodesAreTheirOwn(t *testing.T) {
	a := New(1)
	i := a.Alloc()
	laid := nodeOf(1)
	a.Set(i, laid)
	laid.Key = 77
	told := a.At(i)
	a.Set(i, nodeOf(2))
	if told != nodeOf(1) {
		t.Errorf("told %v", told)
	}
	told.Val = 88
	if a.At(i) != nodeOf(2) {
		t.Errorf("has %v", a.At(i))
	}
}

// P3.3: what slots have outlasts more slots.
func TestNodesOutlastMoreSlots(t *testing.T) {
	a := New(1)
	for n := 1; n <= 300; n++ {
		a.Set(a.Alloc(), nodeOf(n))
		for i := 1; i <= n; i++ {
			if !a.Is(int32(i)) || a.At(int32(i)) != nodeOf(i) {
				t.Fatalf("%d taken: %d has %v", n, i, a.At(int32(i)))
			}
		}
	}
}

// P3.3
func TestNilArena(t *testing.T) {
	var a *Arena
	for _, i := range []int32{math.MinInt32, -1, 0, 1, 2, math.MaxInt32} {
		if a.Alloc() != 0 || a.Free(i) || a.At(i) != (Node{}) || a.Set(i, nodeOf(1)) || a.Is(i) || a.Live() != 0 || a.Len() != 0 {
			t.Errorf("slot %d", i)
		}
	}
}

// R4: two arenas share nothing.
func TestArenasAreApart(t *testing.T) {
	a, b := New(2), New(2)
	taken(a, 3)
	a.Set(1, nodeOf(1))
	a.Free(2)
	if b.Live() != 0 || b.Len() != 3 || b.Is(1) || b.Alloc() != 1 || b.At(1) != (Node{}) || b.Alloc() != 2 {
		t.Error("the other one has changed")
	}
	b.Set(1, nodeOf(2))
	b.Free(1)
	if a.At(1) != nodeOf(1) || a.Live() != 2 || a.Len() != 6 {
		t.Error("the first one has changed")
	}
}

// P3.1 to P3.4: long runs of all calls, held against the model step by step.
func TestRunsAreTheModels(t *testing.T) {
	for room := range 9 {
		a, m := New(room), newModel(1+max(room, 1))
		state := uint64(room + 1)
		draw := func(n int) int {
			state = state*6364136223846793005 + 1442695040888963407
			return int(state>>33) % n
		}
		for step := range 3000 {
			i := int32(draw(a.Len()+4) - 2)
			takes := 2 // more are taken than freed for a while, and fewer then
			if step/400%2 == 1 {
				takes = 1
			}
			switch d := draw(6); {
			case d < 2*takes:
				if got, want := a.Alloc(), m.alloc(); got != want {
					t.Fatalf("room %d, step %d: took %d, not %d", room, step, got, want)
				}
			case d < 5:
				if got, want := a.Free(i), m.free(i); got != want {
					t.Fatalf("room %d, step %d: freed %d: %t", room, step, i, got)
				}
			default:
				if got, want := a.Set(i, nodeOf(step)), m.set(i, nodeOf(step)); got != want {
					t.Fatalf("room %d, step %d: laid %d: %t", room, step, i, got)
				}
			}
			m.same(t, a)
		}
	}
}

// P3.4
func TestNoTwoTakenAreOne(t *testing.T) {
	a := New(1)
	live := map[int32]bool{}
	for round := range 200 {
		for range 40 {
			i := a.Alloc()
			if i < 1 || int(i) >= a.Len() || live[i] {
				t.Fatalf("round %d: took %d, of %d", round, i, a.Len())
			}
			live[i] = true
		}
		for i := range int32(a.Len()) {
			if live[i] && (int(i)+round)%3 != 0 {
				a.Free(i)
				delete(live, i)
			}
		}
		if a.Live() != len(live) {
			t.Fatalf("round %d: %d taken, not %d", round, a.Live(), len(live))
		}
	}
}

// P3.4: however often slots are taken and freed, there are only as many as were taken at once ask for.
func TestSlotsAreBounded(t *testing.T) {
	for _, room := range []int{1, 3, 10, 64} {
		for _, atOnce := range []int{1, 2, 5, 10, 11, 100} {
			a := New(room)
			for range 50 {
				for _, i := range taken(a, atOnce) {
					a.Free(i)
				}
			}
			if a.Len() > max(1+room, 2*atOnce) {
				t.Errorf("room %d, %d at once: %d slots", room, atOnce, a.Len())
			}
		}
	}
}
