package elirs

import (
	"math/rand/v2"
	"reflect"
	"slices"
	"testing"

	"hopper/lirs"
)

// P18.3: Rooms are those of both stores together, each of which has a slot of each kind for each of its keys, and never less of them; of capacity c neither ever has more keys than 2c.
func TestRooms(t *testing.T) {
	for _, c := range []struct{ c, nodes, keys int }{
		{1, 16, 16}, {2, 16, 16}, {3, 16, 16}, {4, 32, 32}, {5, 32, 32}, {6, 32, 32}, {7, 32, 64}, {8, 64, 64}, {12, 64, 64}, {13, 64, 128}, {20, 128, 128}, {100, 512, 1024}, {200, 1024, 2048},
	} {
		x := New(c.c)
		rooms(t, "New", x, 16, 16)
		x = full(t, c.c).x
		rooms(t, "full", x, c.nodes, c.keys)
		for k := range uint64(5000) {
			x.Admit(k)
			x.Touch(k / 2)
		}
		rooms(t, "many keys", x, c.nodes, c.keys)
		for range 100 {
			for _, k := range slices.Concat(x.State().Q, ofKind(x.State(), lirs.Gone)) {
				x.Admit(k)
				x.Touch(k)
			}
		}
		rooms(t, "many keys that came again", x, c.nodes, c.keys)
		x.Resize(1)
		for _, dropped := range allKeys(x.State()) {
			x.Drop(dropped)
		}
		rooms(t, "no keys", x, c.nodes, c.keys)
		x.Resize(c.c)
		for k := range uint64(5000) {
			x.Admit(k)
			x.Touch(k)
		}
		rooms(t, "many keys again", x, c.nodes, c.keys)
	}
	x := New(1000) // a capacity that isn't used up asks for no slots
	for k := range uint64(6) {
		x.Admit(k)
	}
	rooms(t, "few keys", x, 16, 16)
}

func rooms(t *testing.T, what string, x *Cache, nodes, keys int) {
	t.Helper()
	if n, k := x.Rooms(); n != nodes || k != keys {
		t.Errorf("%s: %d slots of nodes, %d of keys, not %d, %d", what, n, k, nodes, keys)
	}
}

// P18.3: the stores have slots of their own: keys that are in Q alone take none in the stack, and one that is there, or remembered, takes just one in the other.
func TestRoomsOfEachStore(t *testing.T) {
	x := laid(lirs.State{C: 9, Q: run(1, 7)})
	rooms(t, "seven in Q alone", x, 16, 24)
	x = laid(lirs.State{C: 9, Q: run(1, 8)})
	rooms(t, "eight in Q alone", x, 24, 24)
	x = laid(lirs.State{C: 9, S: of(lirs.Hot, run(1, 8))})
	rooms(t, "eight Hot", x, 32, 32)
	x.Touch(3)
	x.Drop(2)
	x.Admit(10)
	rooms(t, "eight Hot again", x, 32, 32)
}

// kept is how many bytes hang on a value beside itself.
func kept(t *testing.T, v reflect.Value, seen map[uintptr]bool) int {
	switch v.Kind() {
	case reflect.Pointer:
		if v.IsNil() || seen[v.Pointer()] {
			return 0
		}
		seen[v.Pointer()] = true
		return int(v.Type().Elem().Size()) + kept(t, v.Elem(), seen)
	case reflect.Struct:
		sum := 0
		for i := range v.NumField() {
			sum += kept(t, v.Field(i), seen)
		}
		return sum
	case reflect.Slice:
		sum := v.Cap() * int(v.Type().Elem().Size())
		for i := range v.Len() {
			sum += kept(t, v.Index(i), seen)
		}
		return sum
	case reflect.Map, reflect.Interface, reflect.Func, reflect.Chan:
		t.Fatalf("what hangs on a %s isn't counted", v.Type())
	}
	return 0
}

func keptBy(t *testing.T, x *Cache) int {
	return kept(t, reflect.ValueOf(x), map[uintptr]bool{})
}

// P18.4: how much is kept is told by the greatest capacity, however many keys came and went, and in whatever turn.
func TestKeptByCapacities(t *testing.T) {
	for _, c := range []int{1, 3, 4, 5, 7, 9, 20, 33, 100, 200} {
		x, most := full(t, c).x, keptBy(t, full(t, c).x)
		r := rand.New(rand.NewPCG(uint64(c), 183))
		for n := range uint64(3000) {
			switch k := r.Uint64(); k % 8 {
			case 0:
				x.Resize(1 + int(n)%c)
			case 1:
				for _, dropped := range x.State().S[:len(x.State().S)/2] {
					x.Drop(dropped.Key)
				}
			case 2:
				for _, remembered := range ofKind(x.State(), lirs.Gone) {
					x.Admit(remembered)
				}
			case 3:
				for _, cold := range x.State().Q {
					x.Touch(cold)
				}
			case 4:
				for _, used := range x.Keys() {
					x.Touch(used)
				}
			default:
				x.Resize(c)
				for i := range k >> 8 % 8 {
					x.Admit(k + i)
				}
				x.Touch(k)
			}
			if n%20 == 0 || c < 20 {
				if got := keptBy(t, x); got != most {
					t.Fatalf("capacity %d: %d bytes behind %d acts, not %d", c, got, n, most)
				}
			}
		}
	}
}

// told is all that a Cache tells in lists: a State, Keys, and what was evicted.
type told struct {
	s             lirs.State
	keys, evicted []uint64
}

func toldBy(x *Cache, evicted []uint64) told {
	return told{x.State(), x.Keys(), evicted}
}

// cloned is the same, with lists of its own.
func (a told) cloned() told {
	a.s.S, a.s.Q = slices.Clone(a.s.S), slices.Clone(a.s.Q)
	a.keys, a.evicted = slices.Clone(a.keys), slices.Clone(a.evicted)
	return a
}

func (a told) equal(b told) bool {
	return equal(a.s, b.s) && slices.Equal(a.keys, b.keys) && slices.Equal(a.evicted, b.evicted)
}

// spoil writes one of four lists all over, and the room behind its end; it tells what there is beside that.
func (a told) spoil(list int) told {
	beside := a.cloned()
	switch list {
	case 0:
		overwrite(a.s.S, lirs.Item{Key: mark, Kind: 9})
		beside.s.S = nil
	case 1:
		overwrite(a.s.Q, mark)
		beside.s.Q = nil
	case 2:
		overwrite(a.keys, mark)
		beside.keys = nil
	case 3:
		overwrite(a.evicted, mark)
		beside.evicted = nil
	}
	return beside
}

// but is what there is beside one of them.
func (a told) but(list int) told {
	return a.cloned().spoil(list)
}

func overwrite[T any](l []T, by T) {
	l = l[:cap(l)]
	for i := range l {
		l[i] = by
	}
}

// R3, P18.2: no state, and no list, that was told before is changed by a later call.
func TestToldStays(t *testing.T) {
	r := rand.New(rand.NewPCG(3, 18))
	d := &script{r: r, keys: fewKeys(14), strangers: list(77), most: 10, resizes: 30, touches: 4}
	x := New(8)
	var all, want []told
	for range 2000 {
		a := toldBy(x, d.step(x.State()).do(x))
		all, want = append(all, a), append(want, a.cloned())
	}
	for i := range all {
		if !all[i].equal(want[i]) {
			t.Fatalf("told before: %d, not %d", all[i], want[i])
		}
	}
}

// R3, P18.2: a write into a state, or a list, that was told, or into the room behind it, changes no Cache, and no other list.
func TestWrittenOver(t *testing.T) {
	strangers := list(77, mark)
	for seed := range uint64(20) {
		r := rand.New(rand.NewPCG(seed, 184))
		keys := fewKeys(6 + r.IntN(14))
		d := &script{r: r, keys: keys, strangers: strangers, most: len(keys), resizes: 30, touches: 4}
		b, other := newPair(8), newPair(3)
		asked := append(keys, strangers...)
		for range 300 {
			p := d.step(b.s)
			out := b.take(t, p)
			other.take(t, p)
			for list := range 4 {
				first, second := toldBy(b.x, out), toldBy(b.x, nil)
				unspoilt := second.cloned()
				beside := first.spoil(list)
				if !first.but(list).equal(beside) || !second.equal(unspoilt) {
					t.Fatalf("%v: a write over list %d changed another one", p, list)
				}
			}
			b.fits(t, p.String()+", written over", asked)
			other.fits(t, p.String()+", of another one written over", asked)
		}
	}
}

// R3: a State that was told can go on as lirs's, and the Cache it came from stays; so does the State when the Cache goes on.
func TestStateGoesOn(t *testing.T) {
	first := written(4, "3c 2h 0g 1h|4 3")
	x := cache(first)
	ahead := x.State()
	s, evicted := lirs.Admit(lirs.Touch(ahead, 3), 0)
	same(t, "evicted", evicted, list(4))
	if want := written(4, "0h 3h 2h|1"); !equal(s, want) {
		t.Errorf("State: %d, not %d", s, want)
	}
	has(t, "the Cache", x, first)
	same(t, "evicted of the Cache", x.Resize(1), list(4, 3, 1))
	if !equal(ahead, first) {
		t.Errorf("State that was told: %d", ahead)
	}
}

// R4: Caches share nothing, and the same calls tell the same again.
func TestCachesAreApart(t *testing.T) {
	r := rand.New(rand.NewPCG(4, 18))
	d := &script{r: r, keys: fewKeys(12), strangers: list(77), most: 9, resizes: 30, touches: 4}
	var all []*pair
	for c := range 5 {
		all = append(all, newPair(2*c), newPair(2*c))
	}
	for range 3000 {
		b := all[r.IntN(len(all))]
		b.take(t, d.step(b.s), d.keys...)
	}
	first, again := New(5), New(5)
	var steps []step
	var outs [][]uint64
	for range 500 {
		p := d.step(first.State())
		steps, outs = append(steps, p), append(outs, p.do(first))
	}
	for i, p := range steps {
		same(t, p.String()+", again", p.do(again), outs[i])
	}
	has(t, "again", again, first.State())
	sameStores(t, "again", again, first)
}

// R5: a Cache that didn't come of New may tell anything, but its calls end, and none panics.
func TestZeroCacheEnds(t *testing.T) {
	var x Cache
	for _, p := range triedSteps(list(0, 1, greatest)) {
		p.do(&x)
		x.Has(p.k)
		x.Keys()
		x.Ghosts()
		x.State()
		x.Rooms()
	}
}
