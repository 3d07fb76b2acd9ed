package elru

import (
	"math"
	"reflect"
	"slices"
	"testing"

	"hopper/lru"
)

const greatest = math.MaxUint64

// list writes a list of keys shortly.
func list(keys ...uint64) []uint64 { return keys }

// cache is the one of a capacity with just these keys, by calls.
func cache(c int, keys ...uint64) *Cache {
	x := New(c)
	for _, k := range slices.Backward(keys) {
		x.Admit(k)
	}
	return x
}

func same(t *testing.T, what string, got, want []uint64) {
	t.Helper()
	if !slices.Equal(got, want) {
		t.Errorf("%s: %d, not %d", what, got, want)
	}
}

// has holds what a Cache tells of itself against a capacity and its keys, written out.
func has(t *testing.T, what string, x *Cache, c int, keys []uint64) {
	t.Helper()
	if s := x.State(); s.C != c || !slices.Equal(s.L, keys) {
		t.Errorf("%s, State: %d, not %d with %d", what, s, c, keys)
	}
	same(t, what+", Keys", x.Keys(), keys)
	if g := x.Ghosts(); g != 0 {
		t.Errorf("%s, Ghosts: %d", what, g)
	}
	for _, k := range append(triedKeys(), keys...) {
		if x.Has(k) != slices.Contains(keys, k) {
			t.Errorf("%s, Has %d: %t", what, k, x.Has(k))
		}
	}
}

// P14.1: New, of capacities below 1, 1, 2, the greatest one, and above it.
func TestNew(t *testing.T) {
	for _, c := range []struct{ c, want int }{
		{math.MinInt, 1}, {math.MinInt32, 1}, {-1, 1}, {0, 1}, {1, 1}, {2, 2}, {7, 7},
		{1048575, 1048575}, {1048576, 1048576}, {1048577, 1048576}, {1 << 32, 1048576}, {math.MaxInt, 1048576},
	} {
		has(t, "New", New(c.c), c.want, nil)
		if s := lru.New(c.c); s.C != c.want {
			t.Errorf("lru.New of %d: %d", c.c, s)
		}
	}
}

// P14.1: Touch of a key in front, in between, behind, and of one that isn't there.
func TestTouch(t *testing.T) {
	for _, c := range []struct {
		x    *Cache
		c    int
		k    uint64
		want []uint64
	}{
		{New(2), 2, 0, nil},
		{New(2), 2, greatest, nil},
		{cache(1, 0), 1, 0, list(0)},
		{cache(1, 0), 1, greatest, list(0)},
		{cache(1, greatest), 1, greatest, list(greatest)},
		{cache(1, greatest), 1, 0, list(greatest)},
		{cache(2, 0, greatest), 2, greatest, list(greatest, 0)},
		{cache(2, greatest, 0), 2, 0, list(0, greatest)},
		{cache(3, 1, 2, 3), 3, 1, list(1, 2, 3)},
		{cache(3, 1, 2, 3), 3, 2, list(2, 1, 3)},
		{cache(3, 1, 2, 3), 3, 3, list(3, 1, 2)},
		{cache(5, 1, 2, 3, 4, 5), 5, 3, list(3, 1, 2, 4, 5)},
		{cache(3, 1, 2, 3), 3, 4, list(1, 2, 3)},
		{cache(9, 1, 2), 9, 4, list(1, 2)},
		{cache(3, 1, 2, 3), 3, 1<<32 | 1, list(1, 2, 3)},
	} {
		c.x.Touch(c.k)
		has(t, "Touch", c.x, c.c, c.want)
	}
}

// P14.1: Admit of a key that is there, where it stays in its place, and of one that isn't, with room and without.
func TestAdmit(t *testing.T) {
	for _, c := range []struct {
		x         *Cache
		c         int
		k         uint64
		want, out []uint64
	}{
		{New(1), 1, 0, list(0), nil},
		{New(1), 1, greatest, list(greatest), nil},
		{New(-5), 1, 3, list(3), nil},
		{cache(1, 0), 1, 0, list(0), nil},
		{cache(1, 0), 1, greatest, list(greatest), list(0)},
		{cache(1, greatest), 1, 0, list(0), list(greatest)},
		{cache(2, 0), 2, greatest, list(greatest, 0), nil},
		{cache(2, 1, 2), 2, 1, list(1, 2), nil},
		{cache(2, 1, 2), 2, 2, list(1, 2), nil},
		{cache(2, 1, 2), 2, 3, list(3, 1), list(2)},
		{cache(3, 1, 2), 3, 2, list(1, 2), nil},
		{cache(3, 1, 2), 3, 3, list(3, 1, 2), nil},
		{cache(3, 1, 2, 3), 3, 2, list(1, 2, 3), nil},
		{cache(3, 1, 2, 3), 3, 3, list(1, 2, 3), nil},
		{cache(3, 1, 2, 3), 3, 4, list(4, 1, 2), list(3)},
		{cache(1048577, 1, 2, 3), 1048576, 4, list(4, 1, 2, 3), nil},
	} {
		same(t, "Admit, evicted", c.x.Admit(c.k), c.out)
		has(t, "Admit", c.x, c.c, c.want)
	}
}

// P14.1: a key that is admitted again behind its eviction, by an Admit or a Resize, and behind its Drop, comes in as any other one.
func TestAdmittedAgain(t *testing.T) {
	x := cache(2, 1, 2)
	same(t, "3, evicted", x.Admit(3), list(2))
	same(t, "2 again, evicted", x.Admit(2), list(1))
	has(t, "2 again", x, 2, list(2, 3))
	same(t, "1 again, evicted", x.Admit(1), list(3))
	has(t, "1 again", x, 2, list(1, 2))

	x = cache(3, 1, 2, 3)
	x.Drop(2)
	same(t, "2 behind its Drop, evicted", x.Admit(2), nil)
	has(t, "2 behind its Drop", x, 3, list(2, 1, 3))
	x.Drop(2)
	same(t, "another one behind a Drop, evicted", x.Admit(4), nil)
	same(t, "2 behind its Drop, without room, evicted", x.Admit(2), list(3))
	has(t, "2 behind its Drop, without room", x, 3, list(2, 4, 1))

	x = cache(2, 0, greatest)
	same(t, "Resize, evicted", x.Resize(1), list(greatest))
	same(t, "the greatest key again, evicted", x.Admit(greatest), list(0))
	has(t, "the greatest key again", x, 1, list(greatest))
	same(t, "key 0 again, evicted", x.Admit(0), list(greatest))
	has(t, "key 0 again", x, 1, list(0))
}

// P14.1: Drop of a key that is there, and of one that isn't; what is dropped isn't there, and makes room.
func TestDrop(t *testing.T) {
	for _, c := range []struct {
		x    *Cache
		c    int
		k    uint64
		want []uint64
	}{
		{New(1), 1, 0, nil},
		{New(1), 1, greatest, nil},
		{cache(1, 0), 1, 0, nil},
		{cache(1, 0), 1, greatest, list(0)},
		{cache(2, greatest, 0), 2, greatest, list(0)},
		{cache(2, greatest, 0), 2, 0, list(greatest)},
		{cache(3, 1, 2, 3), 3, 1, list(2, 3)},
		{cache(3, 1, 2, 3), 3, 2, list(1, 3)},
		{cache(3, 1, 2, 3), 3, 3, list(1, 2)},
		{cache(3, 1, 2, 3), 3, 4, list(1, 2, 3)},
	} {
		c.x.Drop(c.k)
		has(t, "Drop", c.x, c.c, c.want)
		c.x.Drop(c.k)
		has(t, "Drop, once more", c.x, c.c, c.want)
		c.x.Touch(c.k)
		has(t, "Touch of what was dropped", c.x, c.c, c.want)
	}
	x := cache(3, 1, 2, 3)
	x.Drop(2)
	same(t, "Admit behind a Drop, evicted", x.Admit(4), nil)
	has(t, "Admit behind a Drop", x, 3, list(4, 1, 3))
}

// P14.1, P6: Resize to more, to the same, to less, to 1, below 1, and above the greatest one; the last one is evicted first.
func TestResize(t *testing.T) {
	for _, c := range []struct {
		x         *Cache
		c, newC   int
		want, out []uint64
	}{
		{New(3), 5, 5, nil, nil},
		{New(3), 0, 1, nil, nil},
		{New(3), math.MaxInt, 1048576, nil, nil},
		{cache(4, 1, 2, 3, 4), 9, 9, list(1, 2, 3, 4), nil},
		{cache(4, 1, 2, 3, 4), 5, 5, list(1, 2, 3, 4), nil},
		{cache(4, 1, 2, 3, 4), 4, 4, list(1, 2, 3, 4), nil},
		{cache(4, 1, 2, 3, 4), 3, 3, list(1, 2, 3), list(4)},
		{cache(4, 1, 2, 3, 4), 2, 2, list(1, 2), list(4, 3)},
		{cache(4, 1, 2, 3, 4), 1, 1, list(1), list(4, 3, 2)},
		{cache(4, 1, 2, 3, 4), 0, 1, list(1), list(4, 3, 2)},
		{cache(4, 1, 2, 3, 4), -7, 1, list(1), list(4, 3, 2)},
		{cache(4, 1, 2, 3, 4), math.MinInt, 1, list(1), list(4, 3, 2)},
		{cache(4, 1, 2, 3, 4), 1048576, 1048576, list(1, 2, 3, 4), nil},
		{cache(4, 1, 2, 3, 4), 1048577, 1048576, list(1, 2, 3, 4), nil},
		{cache(9, 1, 2), 3, 3, list(1, 2), nil},
		{cache(9, 1, 2), 2, 2, list(1, 2), nil},
		{cache(9, 0, greatest), 1, 1, list(0), list(greatest)},
		{cache(9, greatest, 0), 1, 1, list(greatest), list(0)},
		{cache(1, greatest), 1, 1, list(greatest), nil},
	} {
		same(t, "Resize, evicted", c.x.Resize(c.c), c.out)
		has(t, "Resize", c.x, c.newC, c.want)
	}
	x := cache(2, 1, 2)
	x.Resize(3)
	same(t, "Admit behind a Resize to more, evicted", x.Admit(3), nil)
	same(t, "another one, evicted", x.Admit(4), list(2))
	has(t, "Admits behind a Resize to more", x, 3, list(4, 3, 1))
	same(t, "Resize to less, evicted", x.Resize(2), list(1))
	same(t, "Admit behind a Resize to less, evicted", x.Admit(5), list(3))
	has(t, "Admit behind a Resize to less", x, 2, list(5, 4))
}

// P14.1: keys that differ in their upper bits alone are others.
func TestKeysOfAllBits(t *testing.T) {
	x := cache(4, 5, 1<<32|5, 1<<63|5)
	x.Touch(1<<63 | 5)
	has(t, "Touch", x, 4, list(1<<63|5, 5, 1<<32|5))
	x.Drop(5)
	has(t, "Drop", x, 4, list(1<<63|5, 1<<32|5))
	same(t, "evicted", x.Resize(1), list(1<<32|5))
}

// P14.2: a nil Cache does nothing, and tells nothing, whatever is handed in.
func TestNilCache(t *testing.T) {
	var x *Cache
	for range 2 {
		for _, k := range triedKeys() {
			x.Touch(k)
			x.Drop(k)
			same(t, "Admit", x.Admit(k), nil)
			if x.Has(k) {
				t.Errorf("Has %d", k)
			}
		}
		for _, c := range triedCapacities() {
			same(t, "Resize", x.Resize(c), nil)
		}
		has(t, "nil", x, 0, nil)
		if nodes, keys := x.Rooms(); nodes != 0 || keys != 0 {
			t.Errorf("Rooms: %d, %d", nodes, keys)
		}
	}
}

// The chapter's example, and the document's.
func TestExamples(t *testing.T) {
	x := New(1)
	same(t, "Admit 1", x.Admit(1), nil)
	same(t, "Admit 2", x.Admit(2), list(1))
	has(t, "behind it", x, 1, list(2))

	x = New(2)
	x.Admit(1)
	x.Admit(2)
	x.Touch(1)
	same(t, "Admit 3", x.Admit(3), list(2))
	has(t, "behind it", x, 2, list(3, 1))
}

// The store's methods know no capacity, and those of other queues are none of a Cache's; nor can one reach the store from outside.
func TestNoOtherCalls(t *testing.T) {
	var names []string
	for m := range reflect.TypeFor[*Cache]().Methods() {
		names = append(names, m.Name)
	}
	want := []string{"Admit", "Drop", "Ghosts", "Has", "Keys", "Resize", "Rooms", "State", "Touch"}
	if !slices.Equal(names, want) {
		t.Errorf("%v", names)
	}
	for _, f := range reflect.VisibleFields(reflect.TypeFor[Cache]()) {
		if f.IsExported() {
			t.Errorf("field %s", f.Name)
		}
	}
}
