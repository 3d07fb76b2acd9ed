package earc

import (
	"math/rand/v2"
	"reflect"
	"slices"
	"testing"

	"hopper/arc"
)

// P17.3: Rooms are those of the one store, that has a slot of each kind for each key that is there or remembered, and never less of them; of capacity c there are never more keys than 2c.
func TestRooms(t *testing.T) {
	for _, c := range []struct{ c, nodes, keys int }{
		{1, 8, 8}, {2, 8, 8}, {3, 8, 8}, {4, 16, 16}, {5, 16, 16}, {6, 16, 16}, {7, 16, 32}, {8, 32, 32}, {12, 32, 32}, {13, 32, 64}, {20, 64, 64}, {100, 256, 512},
	} {
		x := New(c.c)
		rooms(t, "New", x, 8, 8)
		x = full(t, c.c).x
		rooms(t, "full", x, c.nodes, c.keys)
		for k := range uint64(5000) {
			x.Admit(k)
			x.Touch(k / 2)
		}
		rooms(t, "many keys", x, c.nodes, c.keys)
		for range 100 {
			for _, remembered := range slices.Concat(x.State().B1, x.State().B2) {
				x.Admit(remembered)
				x.Touch(remembered)
			}
		}
		rooms(t, "many keys that came again", x, c.nodes, c.keys)
		x.Resize(1)
		for _, dropped := range known(x.State()) {
			x.Drop(dropped)
		}
		rooms(t, "no keys", x, c.nodes, c.keys)
		x.Resize(c.c)
		for k := range uint64(5000) {
			x.Admit(k)
			x.Touch(k)
		}
		rooms(t, "many keys again", x, c.nodes, c.keys)
	}
	x := New(1000) // a capacity that isn't used up asks for no slots
	for k := range uint64(6) {
		x.Admit(k)
	}
	rooms(t, "few keys", x, 8, 8)
}

func rooms(t *testing.T, what string, x *Cache, nodes, keys int) {
	t.Helper()
	if n, k := x.Rooms(); n != nodes || k != keys {
		t.Errorf("%s: %d slots of nodes, %d of keys, not %d, %d", what, n, k, nodes, keys)
	}
}

// kept is how many bytes hang on a value beside itself.
func kept(t *testing.T, v reflect.Value, seen map[uintptr]bool) int {
	switch v.Kind() {
	case reflect.Pointer:
		if v.IsNil() || seen[v.Pointer()] {
			return 0
		}
		seen[v.Pointer()] = true
		return int(v.Type().Elem().Size()) + kept(t, v.Elem(), seen)
	case reflect.Struct:
		sum := 0
		for i := range v.NumField() {
			sum += kept(t, v.Field(i), seen)
		}
		return sum
	case reflect.Slice:
		sum := v.Cap() * int(v.Type().Elem().Size())
		for i := range v.Len() {
			sum += kept(t, v.Index(i), seen)
		}
		return sum
	case reflect.Map, reflect.Interface, reflect.Func, reflect.Chan:
		t.Fatalf("what hangs on a %s isn't counted", v.Type())
	}
	return 0
}

func keptBy(t *testing.T, x *Cache) int {
	return kept(t, reflect.ValueOf(x), map[uintptr]bool{})
}

// P17.4: how much is kept is told by the greatest capacity, however many keys came and went, and in whatever turn.
func TestKeptByCapacities(t *testing.T) {
	for _, c := range []int{1, 3, 4, 5, 7, 9, 20, 33, 100} {
		x, most := full(t, c).x, keptBy(t, full(t, c).x)
		r := rand.New(rand.NewPCG(uint64(c), 172))
		for n := range uint64(3000) {
			switch k := r.Uint64(); k % 8 {
			case 0:
				x.Resize(1 + int(n)%c)
			case 1:
				for _, dropped := range known(x.State()) {
					x.Drop(dropped)
				}
			case 2:
				for _, remembered := range x.State().B1 {
					x.Admit(remembered)
				}
			case 3:
				for _, remembered := range x.State().B2 {
					x.Admit(remembered)
				}
			case 4:
				for _, used := range x.Keys() {
					x.Touch(used)
				}
			default:
				x.Resize(c)
				for i := range k >> 8 % 8 {
					x.Admit(k + i)
				}
				x.Touch(k)
			}
			if got := keptBy(t, x); got != most {
				t.Fatalf("capacity %d: %d bytes behind %d acts, not %d", c, got, n, most)
			}
		}
	}
}

// told is all that a Cache tells in lists: a State, Keys, and what was evicted.
type told struct {
	s             arc.State
	keys, evicted []uint64
}

func toldBy(x *Cache, evicted []uint64) told {
	return told{x.State(), x.Keys(), evicted}
}

// lists are all of its lists, to be changed.
func (a *told) lists() []*[]uint64 {
	return []*[]uint64{&a.s.T1, &a.s.T2, &a.s.B1, &a.s.B2, &a.keys, &a.evicted}
}

// cloned is the same, with lists of its own.
func (a told) cloned() told {
	for _, l := range a.lists() {
		*l = slices.Clone(*l)
	}
	return a
}

// but is what there is beside the one list that was written over.
func (a told) but(spoilt int) told {
	a = a.cloned()
	*a.lists()[spoilt] = nil
	return a
}

func (a told) equal(b told) bool {
	return equal(a.s, b.s) && slices.Equal(a.keys, b.keys) && slices.Equal(a.evicted, b.evicted)
}

// spoil writes a list all over, and the room behind its last key.
func spoil(l []uint64) {
	l = l[:cap(l)]
	for i := range l {
		l[i] = mark
	}
}

// R3, P17.2: no state, and no list, that was told before is changed by a later call.
func TestToldStays(t *testing.T) {
	r := rand.New(rand.NewPCG(3, 17))
	d := &script{r: r, keys: fewKeys(14), strangers: list(77), most: 10, resizes: 30, touches: 4}
	x := New(8)
	var all, want []told
	for range 2000 {
		a := toldBy(x, d.step(x.State()).do(x))
		all, want = append(all, a), append(want, a.cloned())
	}
	for i := range all {
		if !all[i].equal(want[i]) {
			t.Fatalf("told before: %d, not %d", all[i], want[i])
		}
	}
}

// R3, P17.2: a write into a state, or a list, that was told, or into the room behind it, changes no Cache, and no other list.
func TestWrittenOver(t *testing.T) {
	strangers := list(77, mark)
	for seed := range uint64(20) {
		r := rand.New(rand.NewPCG(seed, 173))
		keys := fewKeys(6 + r.IntN(14))
		d := &script{r: r, keys: keys, strangers: strangers, most: len(keys), resizes: 30, touches: 4}
		b, other := newPair(8), newPair(3)
		asked := append(keys, strangers...)
		for range 300 {
			p := d.step(b.s)
			out := b.take(t, p)
			other.take(t, p)
			first, second := toldBy(b.x, out), toldBy(b.x, nil)
			unspoilt := second.cloned()
			for i, l := range first.lists() {
				before := first.but(i)
				spoil(*l)
				if !first.but(i).equal(before) || !second.equal(unspoilt) {
					t.Fatalf("%v: a write over list %d changed another one", p, i)
				}
			}
			b.fits(t, p.String()+", written over", asked)
			other.fits(t, p.String()+", of another one written over", asked)
		}
	}
}

// R3: a State that was told can go on as arc's, and the Cache it came from stays; so does the State when the Cache goes on.
func TestStateGoesOn(t *testing.T) {
	first := state(4, 1, "1 2|5 6|3|4")
	x := cache(first)
	ahead := x.State()
	s, evicted := arc.Admit(arc.Touch(ahead, 6), 4)
	same(t, "evicted", evicted, list(2))
	if want := state(4, 0, "1|4 6 5|2 3|"); !equal(s, want) {
		t.Errorf("State: %d, not %d", s, want)
	}
	has(t, "the Cache", x, first)
	same(t, "evicted of the Cache", x.Resize(1), list(2, 6, 5))
	if !equal(ahead, first) {
		t.Errorf("State that was told: %d", ahead)
	}
}

// R4: Caches share nothing, and the same calls tell the same again.
func TestCachesAreApart(t *testing.T) {
	r := rand.New(rand.NewPCG(4, 17))
	d := &script{r: r, keys: fewKeys(12), strangers: list(77), most: 9, resizes: 30, touches: 4}
	var all []*pair
	for c := range 5 {
		all = append(all, newPair(2*c), newPair(2*c))
	}
	for range 3000 {
		b := all[r.IntN(len(all))]
		b.take(t, d.step(b.s), d.keys...)
	}
	first, again := New(5), New(5)
	var steps []step
	var outs [][]uint64
	for range 500 {
		p := d.step(first.State())
		steps, outs = append(steps, p), append(outs, p.do(first))
	}
	for i, p := range steps {
		same(t, p.String()+", again", p.do(again), outs[i])
	}
	has(t, "again", again, first.State())
}

// R5: a Cache that didn't come of New may tell anything, but its calls end, and none panics.
func TestZeroCacheEnds(t *testing.T) {
	var x Cache
	for _, p := range triedSteps(list(0, 1, greatest)) {
		p.do(&x)
		x.Has(p.k)
		x.Keys()
		x.Ghosts()
		x.State()
		x.Rooms()
	}
}
