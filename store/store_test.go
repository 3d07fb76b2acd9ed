package store

import (
	"math"
	"reflect"
	"slices"
	"testing"

	"hopper/mix"
)

// held is what the model has of a key.
type held struct {
	val  uint64
	flag int
}

// model is a Store told plainly, and how many slots one asks for.
type model struct {
	queues              [][]uint64
	of                  map[uint64]held
	most                int // how many keys were there at once
	nodeSlots, keySlots int
}

func newModel(queues int) *model {
	return &model{queues: make([][]uint64, queues), of: map[uint64]held{}, nodeSlots: 8, keySlots: 8}
}

func (m *model) has(queue int) bool { return queue >= 0 && queue < len(m.queues) }

func (m *model) queueOf(k uint64) int {
	return slices.IndexFunc(m.queues, func(q []uint64) bool { return slices.Contains(q, k) })
}

func (m *model) lay(queue int, k uint64, back bool) {
	if back {
		m.queues[queue] = append(slices.Clone(m.queues[queue]), k)
	} else {
		m.queues[queue] = append([]uint64{k}, m.queues[queue]...)
	}
}

func (m *model) takeOut(k uint64) {
	q := m.queueOf(k)
	m.queues[q] = slices.DeleteFunc(slices.Clone(m.queues[q]), func(x uint64) bool { return x == k })
}

func (m *model) push(queue int, k uint64, back bool) bool {
	if !m.has(queue) || m.queueOf(k) >= 0 {
		return false
	}
	if 4*len(m.of)+4 > 3*m.keySlots {
		m.keySlots *= 2
	}
	m.lay(queue, k, back)
	m.of[k] = held{}
	m.most = max(m.most, len(m.of))
	if m.most == m.nodeSlots { // slot 0 is no node's
		m.nodeSlots *= 2
	}
	return true
}

func (m *model) move(queue int, k uint64) bool {
	if !m.has(queue) || m.queueOf(k) < 0 {
		return false
	}
	m.takeOut(k)
	m.lay(queue, k, false)
	return true
}

func (m *model) remove(k uint64) bool {
	if m.queueOf(k) < 0 {
		return false
	}
	m.takeOut(k)
	delete(m.of, k)
	return true
}

func (m *model) setVal(k, v uint64) bool {
	h, ok := m.of[k]
	if ok {
		h.val = v
		m.of[k] = h
	}
	return ok
}

func (m *model) setFlag(k uint64, f int) bool {
	h, ok := m.of[k]
	if ok {
		h.flag = f
		m.of[k] = h
	}
	return ok
}

// same holds all that is told of the queues, of those keys and of the slots against the model.
func (m *model) same(t *testing.T, s *Store, keys ...uint64) {
	t.Helper()
	for q := -1; q <= len(m.queues); q++ {
		if m.has(q) {
			has(t, s, q, m.queues[q]...)
		} else {
			has(t, s, q)
		}
	}
	for _, k := range keys {
		queue, h := max(m.queueOf(k), 0), m.of[k]
		if q, ok := s.Find(k); q != queue || ok != (m.queueOf(k) >= 0) || s.Val(k) != h.val || s.Flag(k) != h.flag {
			t.Fatalf("key %d: %d, %t, value %d, flag %d, not %d, %v", k, q, ok, s.Val(k), s.Flag(k), queue, h)
		}
	}
	if s.Total() != len(m.of) {
		t.Fatalf("%d keys, not %d", s.Total(), len(m.of))
	}
	rooms(t, s, m.nodeSlots, m.keySlots)
	if m.nodeSlots > 3*m.most+8 || m.keySlots > 3*m.most+8 {
		t.Fatalf("%d, %d slots, though %d keys were there at once", m.nodeSlots, m.keySlots, m.most)
	}
}

// has holds all that is told of one queue, and in which queue its keys are.
func has(t *testing.T, s *Store, queue int, want ...uint64) {
	t.Helper()
	front, back := uint64(0), uint64(0)
	if n := len(want); n > 0 {
		front, back = want[0], want[n-1]
	}
	if k, ok := s.Front(queue); k != front || ok != (len(want) > 0) {
		t.Fatalf("queue %d: the first one is %d, %t; asked for: %v", queue, k, ok, want)
	}
	if k, ok := s.Back(queue); k != back || ok != (len(want) > 0) {
		t.Fatalf("queue %d: the last one is %d, %t; asked for: %v", queue, k, ok, want)
	}
	if s.Len(queue) != len(want) || !slices.Equal(s.Keys(queue), want) {
		t.Fatalf("queue %d: %d of them, %v, not %v", queue, s.Len(queue), s.Keys(queue), want)
	}
	for _, k := range want {
		if q, ok := s.Find(k); q != queue || !ok {
			t.Fatalf("key %d is in %d, %t, not in %d", k, q, ok, queue)
		}
	}
}

// inNone holds that keys are in no queue, and have nothing.
func inNone(t *testing.T, s *Store, keys ...uint64) {
	t.Helper()
	for _, k := range keys {
		if q, ok := s.Find(k); q != 0 || ok || s.Val(k) != 0 || s.Flag(k) != 0 {
			t.Fatalf("key %d: queue %d, %t, value %d, flag %d", k, q, ok, s.Val(k), s.Flag(k))
		}
	}
}

// keeps holds a key's value and flag.
func keeps(t *testing.T, s *Store, k, v uint64, f int) {
	t.Helper()
	if s.Val(k) != v || s.Flag(k) != f {
		t.Fatalf("key %d: value %d, flag %d, not %d, %d", k, s.Val(k), s.Flag(k), v, f)
	}
}

// rooms holds how many slots there are.
func rooms(t *testing.T, s *Store, nodes, keys int) {
	t.Helper()
	if n, k := s.Rooms(); n != nodes || k != keys {
		t.Fatalf("%d slots of nodes, %d of keys, not %d, %d", n, k, nodes, keys)
	}
}

// pushed pushes keys to a queue's back, one by one.
func pushed(t *testing.T, s *Store, queue int, keys ...uint64) {
	t.Helper()
	for _, k := range keys {
		if !s.PushBack(queue, k) {
			t.Fatalf("%d isn't pushed to the back of %d", k, queue)
		}
	}
}

// given gives a key a value and a flag.
func given(t *testing.T, s *Store, k, v uint64, f int) {
	t.Helper()
	if !s.SetVal(k, v) || !s.SetFlag(k, f) {
		t.Fatalf("key %d isn't given %d, %d", k, v, f)
	}
}

// noQueues are numbers of queues that there aren't, of so many.
func noQueues(queues int) []int {
	return []int{math.MinInt64, math.MinInt32, -2, -1, queues, queues + 1, 8, 9, 256, 1 << 32, math.MaxInt32, math.MaxInt64}
}

// P6.1
func TestNewHasSoManyQueuesAllEmpty(t *testing.T) {
	for _, c := range []struct{ asked, queues int }{
		{math.MinInt64, 1}, {math.MinInt32, 1}, {-1, 1}, {0, 1}, {1, 1}, {2, 2}, {3, 3}, {4, 4}, {5, 5}, {6, 6},
		{7, 7}, {8, 8}, {9, 8}, {16, 8}, {1 << 32, 8}, {math.MaxInt32, 8}, {math.MaxInt64, 8},
	} {
		s := New(c.asked)
		for q := range 9 {
			has(t, s, q)
		}
		inNone(t, s, 0, 1, math.MaxUint64)
		if s.Total() != 0 {
			t.Errorf("%d asked for: %d keys", c.asked, s.Total())
		}
		rooms(t, s, 8, 8)
		for q := range 9 {
			back, front := s.PushBack(q, uint64(q)), s.PushFront(q, uint64(q)+100)
			if back != (q < c.queues) || front != back {
				t.Errorf("%d asked for: pushed to queue %d: %t, %t", c.asked, q, back, front)
			}
		}
		for q := range c.queues {
			has(t, s, q, uint64(q)+100, uint64(q))
		}
		if s.Total() != 2*c.queues {
			t.Errorf("%d asked for: %d keys", c.asked, s.Total())
		}
	}
}

// P6.2: the chapter's example.
func TestMovedToAnotherQueue(t *testing.T) {
	s := New(2)
	if !s.PushFront(0, 1) || !s.Move(1, 1) {
		t.Error("not moved")
	}
	if q, ok := s.Find(1); q != 1 || !ok {
		t.Errorf("%d, %t", q, ok)
	}
	has(t, s, 0)
	has(t, s, 1, 1)
}

// P6.2: both ways in turn.
func TestPushBothWays(t *testing.T) {
	s := New(3)
	for _, c := range []struct {
		push func(int, uint64) bool
		k    uint64
		want []uint64
	}{
		{s.PushFront, 2, []uint64{2}},
		{s.PushFront, 1, []uint64{1, 2}},
		{s.PushBack, 5, []uint64{1, 2, 5}},
		{s.PushFront, 4, []uint64{4, 1, 2, 5}},
		{s.PushBack, 0, []uint64{4, 1, 2, 5, 0}},
		{s.PushBack, math.MaxUint64, []uint64{4, 1, 2, 5, 0, math.MaxUint64}},
	} {
		if !c.push(2, c.k) {
			t.Errorf("%d isn't pushed", c.k)
		}
		has(t, s, 2, c.want...)
		keeps(t, s, c.k, 0, 0)
		if s.Total() != len(c.want) {
			t.Errorf("%d keys", s.Total())
		}
	}
	has(t, s, 0)
	has(t, s, 1)
}

// P6.2: key 0 is one like any other, and is in no queue unless it was pushed.
func TestKeyZero(t *testing.T) {
	s := New(2)
	if s.Remove(0) || s.Move(0, 0) || s.SetVal(0, 1) || s.SetFlag(0, 1) {
		t.Error("it is there")
	}
	inNone(t, s, 0)
	pushed(t, s, 1, 0)
	has(t, s, 1, 0)
	given(t, s, 0, 7, -7)
	if s.PushFront(0, 0) || s.PushBack(1, 0) {
		t.Error("pushed twice")
	}
	pushed(t, s, 1, 5)
	has(t, s, 1, 0, 5)
	if !s.Move(0, 0) {
		t.Error("not moved")
	}
	has(t, s, 0, 0)
	has(t, s, 1, 5)
	keeps(t, s, 0, 7, -7)
	if !s.Remove(0) || s.Remove(0) || s.Total() != 1 {
		t.Error("removed")
	}
	inNone(t, s, 0)
	has(t, s, 0)
}

// P6.2, P6.4: to queues that there aren't nothing is pushed or moved, and no slots come of it.
func TestQueuesThatThereAreNot(t *testing.T) {
	for queues := 1; queues <= 8; queues++ {
		s := New(queues)
		pushed(t, s, 0, 1, 2, 3)
		given(t, s, 2, 20, 21)
		for range 20 {
			for _, q := range noQueues(queues) {
				if s.PushFront(q, 4) || s.PushBack(q, 4) || s.Move(q, 4) || s.Move(q, 2) || s.PushBack(q, 2) {
					t.Errorf("%d queues: queue %d is there", queues, q)
				}
				has(t, s, q)
			}
		}
		has(t, s, 0, 1, 2, 3)
		inNone(t, s, 4)
		keeps(t, s, 2, 20, 21)
		rooms(t, s, 8, 8)
		if s.Total() != 3 {
			t.Errorf("%d keys", s.Total())
		}
	}
}

// P6.2: a key that is in a queue is pushed to none, wherever it stands, and keeps what it has.
func TestPushedOnceAlone(t *testing.T) {
	s := New(3)
	pushed(t, s, 0, 1, 2, 3)
	pushed(t, s, 2, 4)
	for k := uint64(1); k <= 4; k++ {
		given(t, s, k, k*10, int(k))
		for q := range 3 {
			if s.PushFront(q, k) || s.PushBack(q, k) {
				t.Errorf("key %d is pushed to %d", k, q)
			}
		}
		keeps(t, s, k, k*10, int(k))
	}
	has(t, s, 0, 1, 2, 3)
	has(t, s, 1)
	has(t, s, 2, 4)
}

// P6.2, P6.4: a push that is refused brings no slots, though the next key will.
func TestRefusedPushesBringNoSlots(t *testing.T) {
	s := New(2)
	pushed(t, s, 0, 1, 2, 3, 4, 5, 6)
	for _, c := range []struct {
		next        uint64
		nodes, keys int
	}{{7, 8, 8}, {8, 8, 16}, {9, 16, 16}} {
		for range 3 {
			if s.PushFront(2, c.next) || s.PushBack(-1, c.next) || s.PushFront(1, 3) || s.PushBack(0, 6) {
				t.Error("pushed")
			}
			s.Move(1, 100)
			s.Remove(100)
			s.SetVal(100, 1)
			s.SetFlag(100, 1)
			rooms(t, s, c.nodes, c.keys)
		}
		pushed(t, s, 1, c.next)
	}
	has(t, s, 0, 1, 2, 3, 4, 5, 6)
	has(t, s, 1, 7, 8, 9)
}

// P6.2: within its own queue a key goes to the front, and keeps what it has.
func TestMoveWithinItsQueue(t *testing.T) {
	for k, want := range map[uint64][]uint64{1: {1, 2, 3, 4}, 2: {2, 1, 3, 4}, 3: {3, 1, 2, 4}, 4: {4, 1, 2, 3}} {
		s := New(2)
		pushed(t, s, 1, 1, 2, 3, 4)
		for i := uint64(1); i <= 4; i++ {
			given(t, s, i, i*100, -int(i))
		}
		for range 2 {
			if !s.Move(1, k) {
				t.Errorf("%d isn't moved", k)
			}
			has(t, s, 1, want...)
			has(t, s, 0)
			for i := uint64(1); i <= 4; i++ {
				keeps(t, s, i, i*100, -int(i))
			}
		}
		if s.Total() != 4 {
			t.Errorf("%d keys", s.Total())
		}
	}
}

// P6.2: to another queue a key goes with its value and its flag, be that one empty or not.
func TestMoveToAnotherQueue(t *testing.T) {
	for k, left := range map[uint64][]uint64{1: {2, 3}, 2: {1, 3}, 3: {1, 2}} {
		s := New(8)
		pushed(t, s, 3, 1, 2, 3)
		pushed(t, s, 7, 4, 5)
		given(t, s, k, math.MaxUint64, math.MinInt64)
		if !s.Move(7, k) {
			t.Errorf("%d isn't moved", k)
		}
		has(t, s, 3, left...)
		has(t, s, 7, k, 4, 5)
		keeps(t, s, k, math.MaxUint64, math.MinInt64)
		if !s.Move(0, k) {
			t.Errorf("%d isn't moved to the empty one", k)
		}
		has(t, s, 7, 4, 5)
		has(t, s, 0, k)
		keeps(t, s, k, math.MaxUint64, math.MinInt64)
		if s.Total() != 5 {
			t.Errorf("%d keys", s.Total())
		}
	}
}

// P6.2: the one of a queue of one is moved, too.
func TestMoveOfOne(t *testing.T) {
	s := New(2)
	pushed(t, s, 0, 9)
	if !s.Move(0, 9) {
		t.Error("not moved")
	}
	has(t, s, 0, 9)
	if !s.Move(1, 9) || !s.Move(1, 9) || !s.Move(0, 9) {
		t.Error("not moved")
	}
	has(t, s, 0, 9)
	has(t, s, 1)
}

// P6.2, P6.3: of a key that is in no queue, though it once was in one, nothing is moved, removed or set.
func TestKeysThatAreInNone(t *testing.T) {
	s := New(2)
	pushed(t, s, 0, 1, 2)
	given(t, s, 2, 5, 6)
	s.Remove(2)
	for _, k := range []uint64{2, 3, 0, math.MaxUint64} {
		if s.Move(0, k) || s.Move(1, k) || s.Remove(k) || s.SetVal(k, 9) || s.SetFlag(k, 9) {
			t.Errorf("key %d is there", k)
		}
		inNone(t, s, k)
	}
	has(t, s, 0, 1)
	has(t, s, 1)
	keeps(t, s, 1, 0, 0)
	rooms(t, s, 8, 8)
}

// P6.2
func TestRemove(t *testing.T) {
	for _, c := range []struct{ out, left []uint64 }{
		{[]uint64{1}, []uint64{2, 3, 4}},
		{[]uint64{2}, []uint64{1, 3, 4}},
		{[]uint64{4}, []uint64{1, 2, 3}},
		{[]uint64{2, 3}, []uint64{1, 4}},
		{[]uint64{4, 1}, []uint64{2, 3}},
		{[]uint64{1, 2, 3}, []uint64{4}},
		{[]uint64{2, 1, 4, 3}, nil},
	} {
		s := New(2)
		pushed(t, s, 1, 1, 2, 3, 4)
		pushed(t, s, 0, 5)
		for i, k := range c.out {
			if !s.Remove(k) || s.Remove(k) || s.Total() != 4-i {
				t.Errorf("%v: %d", c.out, k)
			}
		}
		has(t, s, 1, c.left...)
		has(t, s, 0, 5)
		inNone(t, s, c.out...)
	}
}

// P6.2: a key that is pushed again has the value 0 and the flag 0, as does a new one in the slot that it left.
func TestRemovedAndPushedAgain(t *testing.T) {
	for _, again := range []uint64{1, 2, 3} {
		for _, push := range []func(*Store, int, uint64) bool{(*Store).PushFront, (*Store).PushBack} {
			s := New(2)
			pushed(t, s, 0, 1, 2)
			given(t, s, 1, 11, 12)
			given(t, s, 2, 21, 22)
			if !s.Remove(1) || !s.Remove(2) {
				t.Error("not removed")
			}
			inNone(t, s, 1, 2)
			if !push(s, 1, again) {
				t.Errorf("%d isn't pushed", again)
			}
			keeps(t, s, again, 0, 0)
			has(t, s, 1, again)
			has(t, s, 0)
			rooms(t, s, 8, 8)
		}
	}
}

// P6.3: each value and each flag is kept as it was given, and a key's one alone.
func TestValuesAndFlags(t *testing.T) {
	s := New(2)
	pushed(t, s, 0, 1, 2)
	pushed(t, s, 1, 3)
	given(t, s, 2, 77, 78)
	for _, v := range []uint64{1, math.MaxUint64, 1 << 63, 0} {
		for _, f := range []int{1, -1, math.MaxInt64, math.MinInt64, 0} {
			given(t, s, 1, v, f)
			keeps(t, s, 1, v, f)
			keeps(t, s, 2, 77, 78)
			keeps(t, s, 3, 0, 0)
		}
	}
	if !s.SetVal(3, 5) {
		t.Error("not set")
	}
	keeps(t, s, 3, 5, 0)
	if !s.SetFlag(3, 6) || !s.SetVal(3, 7) {
		t.Error("not set")
	}
	keeps(t, s, 3, 7, 6)
	has(t, s, 0, 1, 2)
	has(t, s, 1, 3)
}

// P6.3: what is told of queues that there aren't, and of those that are empty, or were emptied.
func TestNothingToTell(t *testing.T) {
	s := New(3)
	pushed(t, s, 1, 1)
	pushed(t, s, 2, 2)
	for _, q := range append(noQueues(3), 0) {
		has(t, s, q)
	}
	s.Remove(1)
	has(t, s, 1)
	s.Move(0, 2)
	has(t, s, 2)
	has(t, s, 0, 2)
}

// P6.3: what is asked changes nothing.
func TestAskingChangesNothing(t *testing.T) {
	s, m := New(2), newModel(2)
	for k := range uint64(7) {
		s.PushFront(int(k%2), k)
		m.push(int(k%2), k, false)
	}
	for i := -3; i < 12; i++ {
		s.Find(uint64(i))
		s.Front(i)
		s.Back(i)
		s.Len(i)
		s.Keys(i)
		s.Val(uint64(i))
		s.Flag(uint64(i))
		s.Total()
		s.Rooms()
	}
	m.same(t, s, 0, 1, 2, 3, 4, 5, 6, 7)
}

// P6.3, R3: what Keys told is the caller's own.
func TestKeysAreTheCallersOwn(t *testing.T) {
	s := New(1)
	pushed(t, s, 0, 1, 2, 3)
	told, other := s.Keys(0), s.Keys(0)
	s.Remove(1)
	s.PushFront(0, 4)
	if !slices.Equal(told, []uint64{1, 2, 3}) {
		t.Errorf("told %v", told)
	}
	told[0], told[1] = 9, 9
	_ = append(told[:1], 7, 7)
	has(t, s, 0, 4, 2, 3)
	if !slices.Equal(other, []uint64{1, 2, 3}) {
		t.Errorf("the other one: %v", other)
	}
}

// P6.1 to P6.4
func TestNilStore(t *testing.T) {
	var s *Store
	for _, q := range append(noQueues(8), 0, 1, 7) {
		for _, k := range []uint64{0, 1, math.MaxUint64} {
			if s.PushFront(q, k) || s.PushBack(q, k) || s.Move(q, k) || s.Remove(k) || s.SetVal(k, 1) || s.SetFlag(k, 1) {
				t.Errorf("queue %d, key %d: laid", q, k)
			}
			inNone(t, s, k)
		}
		has(t, s, q)
	}
	if s.Total() != 0 {
		t.Errorf("%d keys", s.Total())
	}
	rooms(t, s, 0, 0)
}

// P6.4: slots come twice as many when they must, for nodes and for keys, each by its own rule.
func TestRoomsOfMoreKeys(t *testing.T) {
	s := New(8)
	nodes, keys := 8, 8
	for n := 1; n <= 3000; n++ {
		if n == nodes {
			nodes *= 2
		}
		if 4*n > 3*keys {
			keys *= 2
		}
		pushed(t, s, n%8, uint64(n)*7)
		rooms(t, s, nodes, keys)
		if s.Total() != n {
			t.Fatalf("%d keys, not %d", s.Total(), n)
		}
	}
	for n := 1; n <= 3000; n++ {
		s.Remove(uint64(n) * 7)
	}
	rooms(t, s, nodes, keys)
	if s.Total() != 0 {
		t.Errorf("%d keys", s.Total())
	}
}

// P6.5: behind many keys that come and go there are only as many slots as were asked for at once.
func TestRoomsOfKeysThatComeAndGo(t *testing.T) {
	for _, c := range []struct{ atOnce, nodes, keys int }{{1, 8, 8}, {6, 8, 8}, {7, 8, 16}, {8, 16, 16}, {12, 16, 16}, {13, 16, 32}, {100, 128, 256}} {
		s := New(2)
		for n := range uint64(5000) {
			if n >= uint64(c.atOnce) && !s.Remove(n-uint64(c.atOnce)) {
				t.Fatalf("%d at once: %d isn't removed", c.atOnce, n-uint64(c.atOnce))
			}
			if !s.PushFront(int(n%2), n) || !s.Move(int(n/2%2), n) {
				t.Fatalf("%d at once: %d isn't pushed", c.atOnce, n)
			}
		}
		rooms(t, s, c.nodes, c.keys)
		if s.Total() != c.atOnce || c.nodes > 3*c.atOnce+8 || c.keys > 3*c.atOnce+8 {
			t.Errorf("%d at once: %d keys", c.atOnce, s.Total())
		}
	}
}

// R4: two Stores share nothing.
func TestStoresAreApart(t *testing.T) {
	s, other := New(2), New(2)
	pushed(t, s, 0, 1, 2)
	pushed(t, s, 1, 3)
	given(t, s, 1, 10, 11)
	has(t, other, 0)
	has(t, other, 1)
	inNone(t, other, 1, 2, 3)
	pushed(t, other, 1, 3, 2, 1)
	given(t, other, 1, 20, 21)
	other.Remove(2)
	has(t, s, 0, 1, 2)
	has(t, s, 1, 3)
	keeps(t, s, 1, 10, 11)
	has(t, other, 1, 3, 1)
	keeps(t, other, 1, 20, 21)
}

// The calls of what a Store is made of speak of slots; none of them is a Store's.
func TestNoOtherCalls(t *testing.T) {
	var names []string
	for m := range reflect.TypeFor[*Store]().Methods() {
		names = append(names, m.Name)
	}
	want := []string{
		"Back", "Find", "Flag", "Front", "Keys", "Len", "Move", "PushBack", "PushFront",
		"Remove", "Rooms", "SetFlag", "SetVal", "Total", "Val",
	}
	if !slices.Equal(names, want) {
		t.Errorf("%v", names)
	}
}

// step does one call, drawn, at the Store and at the model, and tells whether they told the same.
func step(s *Store, m *model, draw func(int) int, k uint64) bool {
	q := draw(len(m.queues)+2) - 1
	switch draw(8) {
	case 0, 1:
		return s.PushFront(q, k) == m.push(q, k, false)
	case 2:
		return s.PushBack(q, k) == m.push(q, k, true)
	case 3, 4:
		return s.Move(q, k) == m.move(q, k)
	case 5:
		v := uint64(draw(1 << 30))
		return s.SetVal(k, v) == m.setVal(k, v)
	case 6:
		f := draw(1<<20) - 1<<19
		return s.SetFlag(k, f) == m.setFlag(k, f)
	}
	return s.Remove(k) == m.remove(k)
}

// P6.1 to P6.5: long runs of all calls, of few keys and of many, held against the model step by step.
func TestRunsAreTheModels(t *testing.T) {
	for run := range 24 {
		queues, most := 1+run%8, 3+run*3
		s, m := New(queues), newModel(queues)
		state := uint64(run + 1)
		draw := func(n int) int {
			state = state*6364136223846793005 + 1442695040888963407
			return int(state>>33) % n
		}
		keys := []uint64{0, math.MaxUint64}
		for n := range most { // half of them crowd round few homes
			keys = append(keys, uint64(n+1), mix.Unmix(uint64(n<<10|draw(3))))
		}
		for n := range 3000 {
			k := keys[draw(len(keys))]
			if !step(s, m, draw, k) {
				t.Fatalf("run %d, step %d: key %d", run, n, k)
			}
			if n >= 1500 && n < 1600 { // a stretch in which keys only go
				k = keys[draw(len(keys))]
				if s.Remove(k) != m.remove(k) {
					t.Fatalf("run %d, step %d: key %d is removed", run, n, k)
				}
			}
			m.same(t, s, k, keys[draw(len(keys))])
		}
		m.same(t, s, keys...)
	}
}
