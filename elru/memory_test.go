package elru

import (
	"math/rand/v2"
	"reflect"
	"slices"
	"testing"

	"hopper/lru"
)

// mark is what a test writes over lists: no Cache of a test has it as a key.
const mark = 0xdead

// spoil writes a list all over, and the room behind its last key.
func spoil(l []uint64) {
	l = l[:cap(l)]
	for i := range l {
		l[i] = mark
	}
}

// P14.3: Rooms are those of the one store, that has a slot of each kind for each key, and never less of them.
func TestRooms(t *testing.T) {
	for _, c := range []struct{ c, nodes, keys int }{
		{1, 8, 8}, {2, 8, 8}, {6, 8, 8}, {7, 8, 16}, {8, 16, 16}, {12, 16, 16}, {13, 16, 32}, {16, 32, 32}, {100, 128, 256},
	} {
		x := New(c.c)
		rooms(t, "New", x, 8, 8)
		for k := range uint64(5000) {
			x.Admit(k)
			x.Touch(k / 2)
		}
		rooms(t, "many keys", x, c.nodes, c.keys)
		x.Resize(1)
		x.Drop(x.Keys()[0])
		rooms(t, "no keys", x, c.nodes, c.keys)
		x.Resize(c.c)
		for k := range uint64(5000) {
			x.Admit(k)
		}
		rooms(t, "many keys again", x, c.nodes, c.keys)
	}
	x := New(1000) // a capacity that isn't used up asks for no slots
	for k := range uint64(6) {
		x.Admit(k)
	}
	rooms(t, "few keys", x, 8, 8)
}

func rooms(t *testing.T, what string, x *Cache, nodes, keys int) {
	t.Helper()
	if n, k := x.Rooms(); n != nodes || k != keys {
		t.Errorf("%s: %d slots of nodes, %d of keys, not %d, %d", what, n, k, nodes, keys)
	}
}

// kept is how many bytes hang on a value beside itself.
func kept(t *testing.T, v reflect.Value, seen map[uintptr]bool) int {
	switch v.Kind() {
	case reflect.Pointer:
		if v.IsNil() || seen[v.Pointer()] {
			return 0
		}
		seen[v.Pointer()] = true
		return int(v.Type().Elem().Size()) + kept(t, v.Elem(), seen)
	case reflect.Struct:
		sum := 0
		for i := range v.NumField() {
			sum += kept(t, v.Field(i), seen)
		}
		return sum
	case reflect.Slice:
		sum := v.Cap() * int(v.Type().Elem().Size())
		for i := range v.Len() {
			sum += kept(t, v.Index(i), seen)
		}
		return sum
	case reflect.Map, reflect.Interface, reflect.Func, reflect.Chan:
		t.Fatalf("what hangs on a %s isn't counted", v.Type())
	}
	return 0
}

func keptBy(t *testing.T, x *Cache) int {
	return kept(t, reflect.ValueOf(x), map[uintptr]bool{})
}

// full is a Cache without room.
func full(c int) *Cache {
	x := New(c)
	for k := range uint64(c) {
		x.Admit(k)
	}
	return x
}

// P14.4: how much is kept is told by the greatest capacity, however many keys came and went, and in whatever turn.
func TestKeptByCapacities(t *testing.T) {
	for _, c := range []int{1, 5, 6, 7, 33, 100} {
		x, most := full(c), keptBy(t, full(c))
		r := rand.New(rand.NewPCG(uint64(c), 142))
		for n := range uint64(3000) {
			switch k := r.Uint64(); k % 8 {
			case 0:
				x.Resize(1 + int(n)%c)
			case 1:
				for _, there := range x.Keys() {
					x.Drop(there)
				}
			default:
				x.Resize(c)
				x.Admit(k)
				x.Touch(k)
			}
			if got := keptBy(t, x); got != most {
				t.Fatalf("capacity %d: %d bytes behind %d acts, not %d", c, got, n, most)
			}
		}
	}
}

// R3, P14.2: no state, and no list, that was told before is changed by a later call.
func TestToldStays(t *testing.T) {
	r := rand.New(rand.NewPCG(3, 14))
	d := &script{r: r, keys: fewKeys(9), strangers: list(77), most: 8}
	x := New(5)
	var told, want [][]uint64
	for range 2000 {
		out := d.step().do(x)
		for _, l := range [][]uint64{out, x.Keys(), x.State().L} {
			told, want = append(told, l), append(want, slices.Clone(l))
		}
	}
	for i := range told {
		same(t, "told before", told[i], want[i])
	}
}

// R3, P14.2: a write into a state, or a list, that was told, or into the room behind it, changes no Cache, and no other list.
func TestWrittenOver(t *testing.T) {
	strangers := list(77, mark)
	for seed := range uint64(20) {
		r := rand.New(rand.NewPCG(seed, 143))
		keys := fewKeys(4 + r.IntN(12))
		d := &script{r: r, keys: keys, strangers: strangers, most: len(keys)}
		b, other := newPair(4), newPair(3)
		asked := append(keys, strangers...)
		for range 300 {
			p := d.step()
			out := b.take(t, p)
			other.take(t, p)
			s := b.x.State()
			lists := [][]uint64{out, b.x.Keys(), s.L, b.x.Keys(), b.x.State().L}
			for i, l := range lists {
				rest := clonedAll(lists[i+1:])
				spoil(l)
				for j := range rest {
					same(t, p.String()+", another list", lists[i+1+j], rest[j])
				}
			}
			s.C, s.L = -1, append(s.L, mark)
			b.fits(t, p.String()+", written over", asked)
			other.fits(t, p.String()+", of another one written over", asked)
		}
	}
}

// clonedAll are copies of lists.
func clonedAll(lists [][]uint64) [][]uint64 {
	var c [][]uint64
	for _, l := range lists {
		c = append(c, slices.Clone(l))
	}
	return c
}

// R3: a State that was told can go on as lru's, and the Cache it came from stays.
func TestStateGoesOn(t *testing.T) {
	x := cache(3, 1, 2, 3)
	s := x.State()
	s, out := lru.Admit(lru.Touch(s, 3), 4)
	same(t, "evicted", out, list(2))
	same(t, "State", s.L, list(4, 3, 1))
	has(t, "the Cache", x, 3, list(1, 2, 3))
}

// R4: two Caches share nothing, and the same calls tell the same again.
func TestCachesAreApart(t *testing.T) {
	r := rand.New(rand.NewPCG(4, 14))
	d := &script{r: r, keys: fewKeys(12), strangers: list(77), most: 9}
	var all []*pair
	for c := range 4 {
		all = append(all, newPair(c), newPair(c))
	}
	for range 3000 {
		all[r.IntN(len(all))].take(t, d.step(), d.keys...)
	}
	var steps []step
	for range 500 {
		steps = append(steps, d.step())
	}
	first, again := New(5), New(5)
	var outs [][]uint64
	for _, p := range steps {
		outs = append(outs, p.do(first))
	}
	for i, p := range steps {
		same(t, p.String()+", again", p.do(again), outs[i])
	}
	same(t, "Keys, again", again.Keys(), first.Keys())
}

// R5: a Cache that didn't come of New may tell anything, but its calls end, and none panics.
func TestZeroCacheEnds(t *testing.T) {
	var x Cache
	for _, p := range triedSteps() {
		p.do(&x)
		x.Has(p.k)
		x.Keys()
		x.Ghosts()
		x.State()
		x.Rooms()
	}
}
