package esthree

import (
	"math/rand/v2"
	"reflect"
	"slices"
	"testing"

	"hopper/sthree"
)

// P16.3: Rooms are those of the one store, that has a slot of each kind for each key that is there or remembered, and never less of them.
func TestRooms(t *testing.T) {
	for _, c := range []struct{ c, nodes, keys int }{
		{1, 8, 8}, {2, 8, 8}, {3, 8, 8}, {4, 8, 16}, {5, 16, 16}, {6, 16, 16}, {7, 16, 32}, {8, 16, 32}, {9, 32, 32}, {10, 32, 32}, {20, 64, 64}, {100, 256, 256},
	} {
		x := New(c.c)
		rooms(t, "New", x, 8, 8)
		for k := range uint64(5000) {
			x.Admit(k)
			x.Touch(k / 2)
		}
		rooms(t, "many keys", x, c.nodes, c.keys)
		for range 100 {
			for _, remembered := range x.State().Ghost {
				x.Admit(remembered)
				x.Touch(remembered)
			}
		}
		rooms(t, "many keys that came again", x, c.nodes, c.keys)
		x.Resize(1)
		x.Drop(x.Keys()[0])
		rooms(t, "no keys", x, c.nodes, c.keys)
		x.Resize(c.c)
		for k := range uint64(5000) {
			x.Admit(k)
		}
		rooms(t, "many keys again", x, c.nodes, c.keys)
	}
	x := New(1000) // a capacity that isn't used up asks for no slots
	for k := range uint64(6) {
		x.Admit(k)
	}
	rooms(t, "few keys", x, 8, 8)
}

func rooms(t *testing.T, what string, x *Cache, nodes, keys int) {
	t.Helper()
	if n, k := x.Rooms(); n != nodes || k != keys {
		t.Errorf("%s: %d slots of nodes, %d of keys, not %d, %d", what, n, k, nodes, keys)
	}
}

// kept is how many bytes hang on a value beside itself.
func kept(t *testing.T, v reflect.Value, seen map[uintptr]bool) int {
	switch v.Kind() {
	case reflect.Pointer:
		if v.IsNil() || seen[v.Pointer()] {
			return 0
		}
		seen[v.Pointer()] = true
		return int(v.Type().Elem().Size()) + kept(t, v.Elem(), seen)
	case reflect.Struct:
		sum := 0
		for i := range v.NumField() {
			sum += kept(t, v.Field(i), seen)
		}
		return sum
	case reflect.Slice:
		sum := v.Cap() * int(v.Type().Elem().Size())
		for i := range v.Len() {
			sum += kept(t, v.Index(i), seen)
		}
		return sum
	case reflect.Map, reflect.Interface, reflect.Func, reflect.Chan:
		t.Fatalf("what hangs on a %s isn't counted", v.Type())
	}
	return 0
}

func keptBy(t *testing.T, x *Cache) int {
	return kept(t, reflect.ValueOf(x), map[uintptr]bool{})
}

// filled is a Cache without room, that remembers as many keys as it may.
func filled(c int) *Cache {
	x := New(c)
	for k := range uint64(2 * c) {
		x.Admit(k)
	}
	return x
}

// P16.4: how much is kept is told by the greatest capacity, however many keys came and went, and in whatever turn.
func TestKeptByCapacities(t *testing.T) {
	for _, c := range []int{1, 3, 4, 5, 7, 9, 20, 33, 100} {
		x, most := filled(c), keptBy(t, filled(c))
		r := rand.New(rand.NewPCG(uint64(c), 162))
		for n := range uint64(3000) {
			switch k := r.Uint64(); k % 8 {
			case 0:
				x.Resize(1 + int(n)%c)
			case 1:
				for _, dropped := range known(x.State()) {
					x.Drop(dropped)
				}
			case 2, 3:
				for _, remembered := range x.State().Ghost {
					x.Admit(remembered)
				}
			case 4:
				for _, used := range x.Keys() {
					x.Touch(used)
					x.Touch(used)
				}
			default:
				x.Resize(c)
				x.Admit(k)
				x.Touch(k)
			}
			if got := keptBy(t, x); got != most {
				t.Fatalf("capacity %d: %d bytes behind %d acts, not %d", c, got, n, most)
			}
		}
	}
}

// told is all that a Cache tells in lists: a State, Keys, and what was evicted.
type told struct {
	s             sthree.State
	keys, evicted []uint64
}

func toldBy(x *Cache, evicted []uint64) told {
	return told{x.State(), x.Keys(), evicted}
}

// cloned is the same, with lists of its own.
func (a told) cloned() told {
	s := a.s
	s.Small, s.Main, s.Ghost = slices.Clone(s.Small), slices.Clone(s.Main), slices.Clone(s.Ghost)
	return told{s, slices.Clone(a.keys), slices.Clone(a.evicted)}
}

func (a told) equal(b told) bool {
	return equal(a.s, b.s) && slices.Equal(a.keys, b.keys) && slices.Equal(a.evicted, b.evicted)
}

// spoil writes a list all over, and the room behind its last key.
func spoil[T any](l []T, over T) {
	l = l[:cap(l)]
	for i := range l {
		l[i] = over
	}
}

// spoils are writes over each of the lists.
func (a told) spoils() []func() {
	item := sthree.Item{Key: mark, Freq: 2}
	return []func(){
		func() { spoil(a.s.Small, item) },
		func() { spoil(a.s.Main, item) },
		func() { spoil(a.s.Ghost, mark) },
		func() { spoil(a.keys, mark) },
		func() { spoil(a.evicted, mark) },
	}
}

// but is what there is beside the one list that was written over.
func (a told) but(spoilt int) told {
	a = a.cloned()
	switch spoilt {
	case 0:
		a.s.Small = nil
	case 1:
		a.s.Main = nil
	case 2:
		a.s.Ghost = nil
	case 3:
		a.keys = nil
	case 4:
		a.evicted = nil
	}
	return a
}

// R3, P16.2: no state, and no list, that was told before is changed by a later call.
func TestToldStays(t *testing.T) {
	r := rand.New(rand.NewPCG(3, 16))
	d := &script{r: r, keys: fewKeys(14), strangers: list(77), most: 10, resizes: 30, touches: 4}
	x := New(8)
	var all, want []told
	for range 2000 {
		a := toldBy(x, d.step(x.State()).do(x))
		all, want = append(all, a), append(want, a.cloned())
	}
	for i := range all {
		if !all[i].equal(want[i]) {
			t.Fatalf("told before: %d, not %d", all[i], want[i])
		}
	}
}

// R3, P16.2: a write into a state, or a list, that was told, or into the room behind it, changes no Cache, and no other list.
func TestWrittenOver(t *testing.T) {
	strangers := list(77, mark)
	for seed := range uint64(20) {
		r := rand.New(rand.NewPCG(seed, 163))
		keys := fewKeys(6 + r.IntN(14))
		d := &script{r: r, keys: keys, strangers: strangers, most: len(keys), resizes: 30, touches: 4}
		b, other := newPair(8), newPair(3)
		asked := append(keys, strangers...)
		for range 300 {
			p := d.step(b.s)
			out := b.take(t, p)
			other.take(t, p)
			first, second := toldBy(b.x, out), toldBy(b.x, nil)
			unspoilt := second.cloned()
			for i, write := range first.spoils() {
				before := first.but(i)
				write()
				if !first.but(i).equal(before) || !second.equal(unspoilt) {
					t.Fatalf("%v: a write over list %d changed another one", p, i)
				}
			}
			b.fits(t, p.String()+", written over", asked)
			other.fits(t, p.String()+", of another one written over", asked)
		}
	}
}

// R3: a State that was told can go on as sthree's, and the Cache it came from stays; so does the State when the Cache goes on.
func TestStateGoesOn(t *testing.T) {
	first := state(4, "1:1 2:2", "5 6:3", "3 4")
	x := cache(first)
	ahead := x.State()
	s, evicted := sthree.Admit(sthree.Touch(ahead, 6), 4)
	same(t, "evicted", evicted, list(1))
	if !equal(s, state(4, "", "4 2 5 6:3", "1 3")) {
		t.Errorf("State: %d", s)
	}
	has(t, "the Cache", x, first)
	same(t, "evicted of the Cache", x.Resize(1), list(1, 5, 2))
	if !equal(ahead, first) {
		t.Errorf("State that was told: %d", ahead)
	}
}

// R4: Caches share nothing, and the same calls tell the same again.
func TestCachesAreApart(t *testing.T) {
	r := rand.New(rand.NewPCG(4, 16))
	d := &script{r: r, keys: fewKeys(12), strangers: list(77), most: 9, resizes: 30, touches: 4}
	var all []*pair
	for c := range 5 {
		all = append(all, newPair(2*c), newPair(2*c))
	}
	for range 3000 {
		b := all[r.IntN(len(all))]
		b.take(t, d.step(b.s), d.keys...)
	}
	first, again := New(5), New(5)
	var steps []step
	var outs [][]uint64
	for range 500 {
		p := d.step(first.State())
		steps, outs = append(steps, p), append(outs, p.do(first))
	}
	for i, p := range steps {
		same(t, p.String()+", again", p.do(again), outs[i])
	}
	has(t, "again", again, first.State())
}

// R5: a Cache that didn't come of New may tell anything, but its calls end, and none panics.
func TestZeroCacheEnds(t *testing.T) {
	var x Cache
	for _, p := range triedSteps(list(0, 1, greatest)) {
		p.do(&x)
		x.Has(p.k)
		x.Keys()
		x.Ghosts()
		x.State()
		x.Rooms()
	}
}
