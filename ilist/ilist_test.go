package ilist

import (
	"math"
	"slices"
	"testing"

	"hopper/arena"
)

// noTags are tags for which there is no list, of so many lists.
func noTags(tags int) []int {
	return []int{math.MinInt64, math.MinInt32, -2, -1, tags, tags + 1, 8, 9, 256, math.MaxInt32, math.MaxInt64}
}

// slotsOf is an arena of so many slots that are taken, from 1 on, whose nodes all have something beside their lists.
func slotsOf(taken int) *arena.Arena {
	a := arena.New(taken)
	for range taken {
		dress(a, a.Alloc())
	}
	return a
}

// dress gives a slot's node a key, a value and a flag, and leaves the rest.
func dress(a *arena.Arena, i int32) {
	n := a.At(i)
	n.Key, n.Val, n.Flag = uint64(i)*3, math.MaxUint64-uint64(i), -int(i)
	a.Set(i, n)
}

// dressed tells whether a node has beside its list what dress gave it.
func dressed(a *arena.Arena, i int32) bool {
	n := a.At(i)
	return n.Key == uint64(i)*3 && n.Val == math.MaxUint64-uint64(i) && n.Flag == -int(i)
}

// pushed pushes the slots to the back, one by one.
func pushed(t *testing.T, l *Lists, tag int, slots ...int32) {
	t.Helper()
	for _, i := range slots {
		if !l.PushBack(tag, i) {
			t.Fatalf("%d isn't pushed to the back of %d", i, tag)
		}
	}
}

// has holds all that is told of one list, and of the slots in it, from both ends.
func has(t *testing.T, l *Lists, tag int, want ...int32) {
	t.Helper()
	front, back := int32(0), int32(0)
	if n := len(want); n > 0 {
		front, back = want[0], want[n-1]
	}
	if l.Front(tag) != front || l.Back(tag) != back || l.Len(tag) != len(want) || !slices.Equal(l.All(tag), want) {
		t.Fatalf("list %d: front %d, back %d, %d of them, %v, not %v", tag, l.Front(tag), l.Back(tag), l.Len(tag), l.All(tag), want)
	}
	for at, i := range want {
		before, after := int32(0), int32(0)
		if at > 0 {
			before = want[at-1]
		}
		if at < len(want)-1 {
			after = want[at+1]
		}
		if l.Before(i) != before || l.After(i) != after || l.Tag(i) != tag {
			t.Fatalf("list %d, slot %d: between %d and %d, of list %d; asked for: %d and %d", tag, i, l.Before(i), l.After(i), l.Tag(i), before, after)
		}
	}
}

// inNone holds that slots are in no list.
func inNone(t *testing.T, l *Lists, slots ...int32) {
	t.Helper()
	for _, i := range slots {
		if l.Tag(i) != -1 || l.After(i) != 0 || l.Before(i) != 0 {
			t.Fatalf("slot %d: between %d and %d, of list %d", i, l.Before(i), l.After(i), l.Tag(i))
		}
	}
}

// model is lists told plainly.
type model [][]int32

func (m model) tagOf(i int32) int {
	return slices.IndexFunc(m, func(list []int32) bool { return slices.Contains(list, i) })
}

func (m model) has(tag int) bool { return tag >= 0 && tag < len(m) }

func (m model) push(taken bool, tag int, i int32, back bool) bool {
	if !m.has(tag) || !taken || m.tagOf(i) != -1 {
		return false
	}
	if back {
		m[tag] = append(slices.Clone(m[tag]), i)
	} else {
		m[tag] = append([]int32{i}, m[tag]...)
	}
	return true
}

func (m model) remove(i int32) bool {
	tag := m.tagOf(i)
	if tag < 0 {
		return false
	}
	m[tag] = slices.DeleteFunc(slices.Clone(m[tag]), func(x int32) bool { return x == i })
	return true
}

func (m model) moveFront(tag int, i int32) bool {
	return m.has(tag) && m.remove(i) && m.push(true, tag, i, false)
}

// same holds all that the lists tell against the model, for all the arena's slots, and some beside.
func (m model) same(t *testing.T, l *Lists, a *arena.Arena) {
	t.Helper()
	for tag, list := range m {
		has(t, l, tag, list...)
	}
	for i := int32(-2); int(i) < a.Len()+2; i++ {
		if m.tagOf(i) == -1 {
			inNone(t, l, i)
		}
		if a.Is(i) && !dressed(a, i) {
			t.Fatalf("slot %d has %v", i, a.At(i))
		}
	}
}

// P4.1
func TestNewHasSoManyListsAllEmpty(t *testing.T) {
	for _, c := range []struct{ tags, lists int }{
		{math.MinInt64, 1}, {math.MinInt32, 1}, {-1, 1}, {0, 1}, {1, 1}, {2, 2}, {3, 3}, {4, 4}, {5, 5}, {6, 6},
		{7, 7}, {8, 8}, {9, 8}, {16, 8}, {math.MaxInt32, 8}, {math.MaxInt64, 8},
	} {
		a := slotsOf(9)
		l := New(a, c.tags)
		for tag := range 9 {
			has(t, l, tag)
		}
		for i := int32(1); i <= 9; i++ {
			inNone(t, l, i)
			if l.Remove(i) || l.MoveFront(0, i) {
				t.Errorf("%d tags: slot %d is in a list", c.tags, i)
			}
		}
		for tag := range 9 {
			if got := l.PushBack(tag, int32(tag+1)); got != (tag < c.lists) {
				t.Errorf("%d tags: pushed to list %d: %t", c.tags, tag, got)
			}
		}
		for tag := range c.lists {
			has(t, l, tag, int32(tag+1))
		}
	}
}

// P4.1: New takes none of the arena's slots, and changes none.
func TestNewLeavesTheArena(t *testing.T) {
	a := slotsOf(3)
	l := New(a, 8)
	if a.Live() != 3 || a.Len() != 4 || a.Alloc() != 4 {
		t.Errorf("%d taken, of %d", a.Live(), a.Len())
	}
	for i := int32(1); i <= 3; i++ {
		if !dressed(a, i) {
			t.Errorf("slot %d: %v", i, a.At(i))
		}
	}
	pushed(t, l, 0, 1, 2, 3, 4)
	if a.Live() != 4 || a.Len() != 8 {
		t.Errorf("pushed: %d taken, of %d", a.Live(), a.Len())
	}
}

// P4.2: the chapter's example, and both ways in turn.
func TestPushBothWays(t *testing.T) {
	l := New(slotsOf(5), 1)
	for _, c := range []struct {
		push func(int, int32) bool
		i    int32
		want []int32
	}{
		{l.PushFront, 2, []int32{2}},
		{l.PushFront, 1, []int32{1, 2}},
		{l.PushBack, 5, []int32{1, 2, 5}},
		{l.PushFront, 4, []int32{4, 1, 2, 5}},
		{l.PushBack, 3, []int32{4, 1, 2, 5, 3}},
	} {
		if !c.push(0, c.i) {
			t.Errorf("%d isn't pushed", c.i)
		}
		has(t, l, 0, c.want...)
	}
}

// P4.2: the first one of an empty list is the last one, too, pushed either way, and again when it was emptied.
func TestPushToAnEmptyList(t *testing.T) {
	l := New(slotsOf(2), 3)
	for tag := range 3 {
		for _, push := range []func(int, int32) bool{l.PushFront, l.PushBack, l.PushFront} {
			if !push(tag, 2) {
				t.Errorf("list %d: not pushed", tag)
			}
			has(t, l, tag, 2)
			if !l.Remove(2) {
				t.Errorf("list %d: not removed", tag)
			}
			has(t, l, tag)
			inNone(t, l, 2)
		}
	}
}

// P4.2: without such a list nothing is pushed, or moved.
func TestTagsWithoutAList(t *testing.T) {
	for tags := 1; tags <= 8; tags++ {
		l := New(slotsOf(4), tags)
		pushed(t, l, 0, 1, 2, 3)
		for _, tag := range noTags(tags) {
			if l.PushFront(tag, 4) || l.PushBack(tag, 4) || l.MoveFront(tag, 4) || l.MoveFront(tag, 2) || l.MoveFront(tag, 1) {
				t.Errorf("%d lists: list %d is there", tags, tag)
			}
			has(t, l, tag)
			has(t, l, 0, 1, 2, 3)
			inNone(t, l, 4)
		}
	}
}

// P4.2: slots that aren't taken are pushed to no list, and are in none.
func TestSlotsThatAreNotTaken(t *testing.T) {
	a := slotsOf(6)
	l := New(a, 2)
	pushed(t, l, 0, 1, 2, 3)
	l.Remove(2)
	a.Free(2)
	a.Free(5)
	for _, i := range []int32{math.MinInt32, -2, -1, 0, 2, 5, 7, 8, 100, math.MaxInt32} {
		for tag := range 2 {
			if l.PushFront(tag, i) || l.PushBack(tag, i) || l.Remove(i) || l.MoveFront(tag, i) {
				t.Errorf("slot %d, list %d", i, tag)
			}
		}
		inNone(t, l, i)
	}
	has(t, l, 0, 1, 3)
	has(t, l, 1)
	if a.Live() != 4 || a.Len() != 7 || a.At(2) != (arena.Node{}) {
		t.Errorf("%d taken, of %d", a.Live(), a.Len())
	}
}

// P4.2: a slot that is in a list is pushed to none, be it the first one, the last one, or another.
func TestPushedOnceAlone(t *testing.T) {
	l := New(slotsOf(4), 3)
	pushed(t, l, 0, 1, 2, 3)
	pushed(t, l, 2, 4)
	for i := int32(1); i <= 4; i++ {
		for tag := range 3 {
			if l.PushFront(tag, i) || l.PushBack(tag, i) {
				t.Errorf("slot %d is pushed to %d", i, tag)
			}
			has(t, l, 0, 1, 2, 3)
			has(t, l, 1)
			has(t, l, 2, 4)
		}
	}
}

// P4.2
func TestRemove(t *testing.T) {
	for _, c := range []struct{ out, left []int32 }{
		{[]int32{1}, []int32{2, 3, 4}},
		{[]int32{2}, []int32{1, 3, 4}},
		{[]int32{4}, []int32{1, 2, 3}},
		{[]int32{2, 3}, []int32{1, 4}},
		{[]int32{3, 2}, []int32{1, 4}},
		{[]int32{1, 4}, []int32{2, 3}},
		{[]int32{4, 3, 2}, []int32{1}},
		{[]int32{1, 2, 3}, []int32{4}},
		{[]int32{2, 1, 4, 3}, nil},
	} {
		l := New(slotsOf(5), 2)
		pushed(t, l, 1, 1, 2, 3, 4)
		pushed(t, l, 0, 5)
		for _, i := range c.out {
			if !l.Remove(i) || l.Remove(i) {
				t.Errorf("%v: %d", c.out, i)
			}
		}
		has(t, l, 1, c.left...)
		has(t, l, 0, 5)
		inNone(t, l, c.out...)
		pushed(t, l, 1, c.out...)
		has(t, l, 1, append(slices.Clone(c.left), c.out...)...)
	}
}

// P4.2: a slot that is in none isn't removed, though it once was in one.
func TestRemoveWhatIsInNone(t *testing.T) {
	l := New(slotsOf(3), 2)
	pushed(t, l, 1, 1, 2)
	if l.Remove(3) || !l.Remove(2) || l.Remove(2) || l.MoveFront(0, 2) || l.MoveFront(1, 3) {
		t.Error("removed")
	}
	has(t, l, 0)
	has(t, l, 1, 1)
	inNone(t, l, 2, 3)
}

// P4.2
func TestMoveFrontInItsList(t *testing.T) {
	for i, want := range map[int32][]int32{1: {1, 2, 3, 4}, 2: {2, 1, 3, 4}, 3: {3, 1, 2, 4}, 4: {4, 1, 2, 3}} {
		l := New(slotsOf(4), 1)
		pushed(t, l, 0, 1, 2, 3, 4)
		for range 2 {
			if !l.MoveFront(0, i) {
				t.Errorf("%d isn't moved", i)
			}
			has(t, l, 0, want...)
		}
	}
}

// P4.2: the one of a list of one is moved, too.
func TestMoveFrontOfOne(t *testing.T) {
	l := New(slotsOf(1), 2)
	pushed(t, l, 1, 1)
	if !l.MoveFront(1, 1) {
		t.Error("not moved")
	}
	has(t, l, 1, 1)
	if !l.MoveFront(0, 1) {
		t.Error("not moved to 0")
	}
	has(t, l, 1)
	has(t, l, 0, 1)
}

// P4.2: a slot is moved to another list.
func TestMoveFrontToAnotherList(t *testing.T) {
	for i, left := range map[int32][]int32{1: {2, 3}, 2: {1, 3}, 3: {1, 2}} {
		l := New(slotsOf(5), 8)
		pushed(t, l, 3, 1, 2, 3)
		pushed(t, l, 7, 4, 5)
		if !l.MoveFront(7, i) {
			t.Errorf("%d isn't moved", i)
		}
		has(t, l, 3, left...)
		has(t, l, 7, i, 4, 5)
		if !l.MoveFront(0, i) {
			t.Errorf("%d isn't moved to the empty one", i)
		}
		has(t, l, 7, 4, 5)
		has(t, l, 0, i)
	}
}

// P4.3: lists of different tags are apart, list 0 as well.
func TestSeveralLists(t *testing.T) {
	l := New(slotsOf(24), 8)
	var want [8][]int32
	for i := int32(1); i <= 24; i++ {
		tag := int(i*5) % 8
		if i%3 == 0 {
			l.PushFront(tag, i)
			want[tag] = append([]int32{i}, want[tag]...)
		} else {
			l.PushBack(tag, i)
			want[tag] = append(want[tag], i)
		}
		for tag := range 8 {
			has(t, l, tag, want[tag]...)
		}
	}
}

// P4.3, P4.4: a list is gone through from both ends alike, step by step.
func TestGoneThroughFromBothEnds(t *testing.T) {
	l := New(slotsOf(100), 2)
	for i := int32(1); i <= 100; i++ {
		if i%2 == 0 {
			l.PushFront(1, i)
		} else {
			l.PushBack(1, i)
		}
	}
	var down, up []int32
	for i := l.Front(1); i != 0; i = l.After(i) {
		down = append(down, i)
	}
	for i := l.Back(1); i != 0; i = l.Before(i) {
		up = append(up, i)
	}
	slices.Reverse(up)
	if len(down) != 100 || !slices.Equal(down, up) || !slices.Equal(down, l.All(1)) {
		t.Errorf("%v, %v", down, up)
	}
}

// P4.3: what is told of tags and slots that aren't there.
func TestNothingToTell(t *testing.T) {
	l := New(slotsOf(3), 2)
	pushed(t, l, 0, 1, 2)
	for _, tag := range noTags(2) {
		if l.Front(tag) != 0 || l.Back(tag) != 0 || l.Len(tag) != 0 || len(l.All(tag)) != 0 {
			t.Errorf("list %d", tag)
		}
	}
	inNone(t, l, math.MinInt32, -1, 0, 3, 4, 5, 1000, math.MaxInt32)
}

// P4.3
func TestNilLists(t *testing.T) {
	var l *Lists
	for _, tag := range append(noTags(8), 0, 1, 7) {
		for _, i := range []int32{math.MinInt32, -1, 0, 1, 2, math.MaxInt32} {
			if l.PushFront(tag, i) || l.PushBack(tag, i) || l.Remove(i) || l.MoveFront(tag, i) {
				t.Errorf("list %d, slot %d: laid", tag, i)
			}
			inNone(t, l, i)
		}
		has(t, l, tag)
	}
}

// P4.1, P4.2: of an arena that is nil no slot is taken, so lists of it stay empty.
func TestListsOfANilArena(t *testing.T) {
	l := New(nil, 2)
	for _, i := range []int32{-1, 0, 1, 2} {
		for tag := range 3 {
			if l.PushFront(tag, i) || l.PushBack(tag, i) || l.Remove(i) || l.MoveFront(tag, i) {
				t.Errorf("list %d, slot %d: laid", tag, i)
			}
			has(t, l, tag)
		}
		inNone(t, l, i)
	}
}

// R3: what All told is the caller's own.
func TestAllIsTheCallersOwn(t *testing.T) {
	l := New(slotsOf(4), 1)
	pushed(t, l, 0, 1, 2, 3)
	told := l.All(0)
	other := l.All(0)
	l.Remove(1)
	l.PushFront(0, 4)
	if !slices.Equal(told, []int32{1, 2, 3}) {
		t.Errorf("told %v", told)
	}
	told[0], told[1] = 9, 9
	_ = append(told[:1], 7, 7)
	has(t, l, 0, 4, 2, 3)
	if !slices.Equal(other, []int32{1, 2, 3}) {
		t.Errorf("the other one: %v", other)
	}
}

// P4.4: what a node has beside stays, whatever is done to its slot and those next to it.
func TestWhatANodeHasBesideStays(t *testing.T) {
	a := slotsOf(6)
	l := New(a, 3)
	pushed(t, l, 0, 1, 2, 3)
	l.PushFront(0, 4)
	l.PushFront(2, 5)
	l.MoveFront(0, 2)
	l.MoveFront(2, 3)
	l.Remove(1)
	l.Remove(1)
	l.PushBack(0, 5)
	l.PushBack(9, 6)
	for i := int32(1); i <= 6; i++ {
		if !dressed(a, i) {
			t.Errorf("slot %d: %v", i, a.At(i))
		}
	}
	has(t, l, 0, 2, 4)
	has(t, l, 1)
	has(t, l, 2, 3, 5)
}

// P4.4: what others lay beside a slot's list, while it is in one, changes no list.
func TestNodesAreLaidBesideTheirLists(t *testing.T) {
	a := slotsOf(3)
	l := New(a, 2)
	pushed(t, l, 1, 2, 1, 3)
	for i := int32(1); i <= 3; i++ {
		n := a.At(i)
		n.Key, n.Val, n.Flag = math.MaxUint64, 0, math.MinInt64
		a.Set(i, n)
	}
	has(t, l, 1, 2, 1, 3)
	l.MoveFront(0, 1)
	for i := int32(1); i <= 3; i++ {
		if n := a.At(i); n.Key != math.MaxUint64 || n.Val != 0 || n.Flag != math.MinInt64 {
			t.Errorf("slot %d: %v", i, n)
		}
	}
	has(t, l, 0, 1)
	has(t, l, 1, 2, 3)
}

// P4.2: a slot that was removed and freed is, taken anew, in no list.
func TestFreedAndTakenAnew(t *testing.T) {
	a := slotsOf(3)
	l := New(a, 2)
	pushed(t, l, 0, 1, 2, 3)
	for range 5 {
		l.Remove(2)
		a.Free(2)
		inNone(t, l, 2)
		if i := a.Alloc(); i != 2 {
			t.Fatalf("took %d", i)
		}
		inNone(t, l, 2)
		has(t, l, 0, 1, 3)
		pushed(t, l, 1, 2)
		has(t, l, 1, 2)
	}
}

// P4.4: lists outlast more slots.
func TestListsOutlastMoreSlots(t *testing.T) {
	a := arena.New(1)
	l := New(a, 2)
	var want [2][]int32
	for n := range 200 {
		i := a.Alloc()
		tag := n % 2
		pushed(t, l, tag, i)
		want[tag] = append(want[tag], i)
		has(t, l, 0, want[0]...)
		has(t, l, 1, want[1]...)
	}
}

// R4: lists of two arenas share nothing.
func TestListsAreApart(t *testing.T) {
	l, m := New(slotsOf(3), 2), New(slotsOf(3), 2)
	pushed(t, l, 0, 1, 2)
	pushed(t, l, 1, 3)
	has(t, m, 0)
	has(t, m, 1)
	inNone(t, m, 1, 2, 3)
	pushed(t, m, 1, 3, 2, 1)
	m.Remove(2)
	has(t, l, 0, 1, 2)
	has(t, l, 1, 3)
	has(t, m, 1, 3, 1)
}

// Whatever nodes others have linked, All ends.
func TestAllEndsThoughOthersLinkedNodes(t *testing.T) {
	a := slotsOf(2)
	l := New(a, 1)
	pushed(t, l, 0, 1, 2)
	n := a.At(2)
	n.Next = 1
	a.Set(2, n)
	if got := l.All(0); !slices.Equal(got, []int32{1, 2}) {
		t.Errorf("%v", got)
	}
}

// P4.2, P4.4: a slot that another Lists of the arena has is in a list, and is pushed to no other one; Lists that have no list of its tag leave it there.
func TestASlotOfAnotherLists(t *testing.T) {
	a := slotsOf(3)
	l, m := New(a, 8), New(a, 1)
	pushed(t, l, 5, 1, 2, 3)
	for i := int32(1); i <= 3; i++ {
		if m.PushFront(0, i) || m.PushBack(0, i) || m.Remove(i) || m.MoveFront(0, i) {
			t.Errorf("slot %d", i)
		}
	}
	has(t, m, 0)
	has(t, l, 5, 1, 2, 3)
}

// P4.1 to P4.4: long runs of all calls, held against the model step by step.
func TestRunsAreTheModels(t *testing.T) {
	for tags := 1; tags <= 8; tags++ {
		a, m := arena.New(4), make(model, tags)
		l := New(a, tags)
		state := uint64(tags)
		draw := func(n int) int {
			state = state*6364136223846793005 + 1442695040888963407
			return int(state>>33) % n
		}
		for step := range 3000 {
			i := int32(draw(min(a.Len(), 40)+3) - 1)
			tag := draw(tags+2) - 1
			var got, want bool
			switch draw(7) {
			case 0:
				if a.Live() < 40 {
					dress(a, a.Alloc())
				}
			case 1:
				got, want = l.PushFront(tag, i), m.push(a.Is(i), tag, i, false)
			case 2, 3:
				got, want = l.PushBack(tag, i), m.push(a.Is(i), tag, i, true)
			case 4:
				got, want = l.MoveFront(tag, i), m.moveFront(tag, i)
			case 5:
				got, want = l.Remove(i), m.remove(i)
			default:
				got, want = l.Remove(i), m.remove(i)
				a.Free(i)
			}
			if got != want {
				t.Fatalf("%d lists, step %d: list %d, slot %d: %t", tags, step, tag, i, got)
			}
			m.same(t, l, a)
		}
	}
}
