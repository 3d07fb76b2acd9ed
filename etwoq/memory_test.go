package etwoq

import (
	"math/rand/v2"
	"reflect"
	"slices"
	"testing"

	"hopper/twoq"
)

// spoil writes a list all over, and the room behind its last key.
func spoil(l []uint64) {
	l = l[:cap(l)]
	for i := range l {
		l[i] = mark
	}
}

// P15.3: Rooms are those of the one store, that has a slot of each kind for each key that is there or remembered, and never less of them.
func TestRooms(t *testing.T) {
	for _, c := range []struct{ c, nodes, keys int }{
		{1, 8, 8}, {2, 8, 8}, {4, 8, 8}, {5, 8, 16}, {6, 16, 16}, {8, 16, 16}, {9, 16, 32}, {10, 16, 32}, {11, 32, 32}, {100, 256, 256},
	} {
		x := New(c.c)
		rooms(t, "New", x, 8, 8)
		for k := range uint64(5000) {
			x.Admit(k)
			x.Touch(k / 2)
		}
		rooms(t, "many keys", x, c.nodes, c.keys)
		for range 100 {
			for _, remembered := range x.State().Out {
				x.Admit(remembered)
			}
		}
		rooms(t, "many keys that came again", x, c.nodes, c.keys)
		x.Resize(1)
		x.Drop(x.Keys()[0])
		rooms(t, "no keys", x, c.nodes, c.keys)
		x.Resize(c.c)
		for k := range uint64(5000) {
			x.Admit(k)
		}
		rooms(t, "many keys again", x, c.nodes, c.keys)
	}
	x := New(1000) // a capacity that isn't used up asks for no slots
	for k := range uint64(6) {
		x.Admit(k)
	}
	rooms(t, "few keys", x, 8, 8)
}

func rooms(t *testing.T, what string, x *Cache, nodes, keys int) {
	t.Helper()
	if n, k := x.Rooms(); n != nodes || k != keys {
		t.Errorf("%s: %d slots of nodes, %d of keys, not %d, %d", what, n, k, nodes, keys)
	}
}

// kept is how many bytes hang on a value beside itself.
func kept(t *testing.T, v reflect.Value, seen map[uintptr]bool) int {
	switch v.Kind() {
	case reflect.Pointer:
		if v.IsNil() || seen[v.Pointer()] {
			return 0
		}
		seen[v.Pointer()] = true
		return int(v.Type().Elem().Size()) + kept(t, v.Elem(), seen)
	case reflect.Struct:
		sum := 0
		for i := range v.NumField() {
			sum += kept(t, v.Field(i), seen)
		}
		return sum
	case reflect.Slice:
		sum := v.Cap() * int(v.Type().Elem().Size())
		for i := range v.Len() {
			sum += kept(t, v.Index(i), seen)
		}
		return sum
	case reflect.Map, reflect.Interface, reflect.Func, reflect.Chan:
		t.Fatalf("what hangs on a %s isn't counted", v.Type())
	}
	return 0
}

func keptBy(t *testing.T, x *Cache) int {
	return kept(t, reflect.ValueOf(x), map[uintptr]bool{})
}

// full is a Cache without room, that remembers as many keys as it may.
func full(c int) *Cache {
	x := New(c)
	for k := range uint64(2 * c) {
		x.Admit(k)
	}
	return x
}

// P15.4: how much is kept is told by the greatest capacity, however many keys came and went, and in whatever turn.
func TestKeptByCapacities(t *testing.T) {
	for _, c := range []int{1, 4, 5, 6, 10, 11, 33, 100} {
		x, most := full(c), keptBy(t, full(c))
		r := rand.New(rand.NewPCG(uint64(c), 152))
		for n := range uint64(3000) {
			switch k := r.Uint64(); k % 8 {
			case 0:
				x.Resize(1 + int(n)%c)
			case 1:
				s := x.State()
				for _, known := range slices.Concat(s.In, s.Out, s.Main) {
					x.Drop(known)
				}
			case 2, 3:
				for _, remembered := range x.State().Out {
					x.Admit(remembered)
				}
			default:
				x.Resize(c)
				x.Admit(k)
				x.Touch(k)
			}
			if got := keptBy(t, x); got != most {
				t.Fatalf("capacity %d: %d bytes behind %d acts, not %d", c, got, n, most)
			}
		}
	}
}

// told are all lists that a Cache tells of itself.
func told(x *Cache) [][]uint64 {
	s := x.State()
	return [][]uint64{x.Keys(), s.In, s.Out, s.Main}
}

// clonedAll are copies of lists.
func clonedAll(lists [][]uint64) [][]uint64 {
	var c [][]uint64
	for _, l := range lists {
		c = append(c, slices.Clone(l))
	}
	return c
}

// R3, P15.2: no state, and no list, that was told before is changed by a later call.
func TestToldStays(t *testing.T) {
	r := rand.New(rand.NewPCG(3, 15))
	d := &script{r: r, keys: fewKeys(14), strangers: list(77), most: 10, resizes: 30}
	x := New(8)
	var lists, want [][]uint64
	for range 2000 {
		out := d.step(x.State()).do(x)
		all := append(told(x), out)
		lists, want = append(lists, all...), append(want, clonedAll(all)...)
	}
	for i := range lists {
		same(t, "told before", lists[i], want[i])
	}
}

// R3, P15.2: a write into a state, or a list, that was told, or into the room behind it, changes no Cache, and no other list.
func TestWrittenOver(t *testing.T) {
	strangers := list(77, mark)
	for seed := range uint64(20) {
		r := rand.New(rand.NewPCG(seed, 153))
		keys := fewKeys(6 + r.IntN(14))
		d := &script{r: r, keys: keys, strangers: strangers, most: len(keys), resizes: 30}
		b, other := newPair(8), newPair(3)
		asked := append(keys, strangers...)
		for range 300 {
			p := d.step(b.s)
			out := b.take(t, p)
			other.take(t, p)
			lists := append(told(b.x), out)
			lists = append(lists, told(b.x)...)
			want := clonedAll(lists)
			for i, l := range lists {
				spoil(l)
				for j := i + 1; j < len(lists); j++ {
					same(t, p.String()+", another list", lists[j], want[j])
				}
			}
			b.fits(t, p.String()+", written over", asked)
			other.fits(t, p.String()+", of another one written over", asked)
		}
	}
}

// R3: a State that was told can go on as twoq's, and the Cache it came from stays; so does the State when the Cache goes on.
func TestStateGoesOn(t *testing.T) {
	first := state(4, list(1, 2), list(3, 4), list(5, 6))
	x := cache(first)
	told := x.State()
	s, evicted := twoq.Admit(twoq.Touch(told, 6), 4)
	same(t, "evicted", evicted, list(2))
	if !equal(s, state(4, list(1), list(2, 3), list(4, 6, 5))) {
		t.Errorf("State: %d", s)
	}
	has(t, "the Cache", x, first)
	same(t, "evicted of the Cache", x.Resize(1), list(2, 6, 5))
	if !equal(told, first) {
		t.Errorf("State that was told: %d", told)
	}
}

// R4: Caches share nothing, and the same calls tell the same again.
func TestCachesAreApart(t *testing.T) {
	r := rand.New(rand.NewPCG(4, 15))
	d := &script{r: r, keys: fewKeys(12), strangers: list(77), most: 9, resizes: 30}
	var all []*pair
	for c := range 5 {
		all = append(all, newPair(2*c), newPair(2*c))
	}
	for range 3000 {
		b := all[r.IntN(len(all))]
		b.take(t, d.step(b.s), d.keys...)
	}
	first, again := New(5), New(5)
	var steps []step
	var outs [][]uint64
	for range 500 {
		p := d.step(first.State())
		steps, outs = append(steps, p), append(outs, p.do(first))
	}
	for i, p := range steps {
		same(t, p.String()+", again", p.do(again), outs[i])
	}
	has(t, "again", again, first.State())
}

// R5: a Cache that didn't come of New may tell anything, but its calls end, and none panics.
func TestZeroCacheEnds(t *testing.T) {
	var x Cache
	for _, p := range triedSteps(list(0, 1, greatest)) {
		p.do(&x)
		x.Has(p.k)
		x.Keys()
		x.Ghosts()
		x.State()
		x.Rooms()
	}
}
