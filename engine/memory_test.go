package engine

import (
	"fmt"
	"math/rand/v2"
	"reflect"
	"slices"
	"testing"

	"hopper/api"
)

// mark is what tests write over lists that were told; no Engine of a test has it.
const mark = 0xdead0000beef

// roomy is an Engine that goes through many keys, with the greatest capacity that it had yet.
type roomy struct {
	e        *Engine
	greatest int
}

// within holds Rooms against the bound, and against how many keys there are, or are remembered.
func (x *roomy) within(t *testing.T, what string) {
	t.Helper()
	nodes, keys := x.e.Rooms()
	least, most := x.e.Len()+x.e.Ghosts(), 24*x.greatest+64
	if nodes < least || keys < least || nodes > most || keys > most {
		t.Fatalf("%s: %d, %d, not from %d to %d", what, nodes, keys, least, most)
	}
}

// round puts far more keys than the capacity, of which some come again that were evicted lately; none fails for want of room.
func (x *roomy) round(t *testing.T, what string) {
	t.Helper()
	for k := range uint64(10*x.greatest + 200) {
		x.e.Put(k, k+1)
		x.within(t, what)
		if v, ok := x.e.Get(k); !ok || v != k+1 {
			t.Fatalf("%s: %d isn't there behind its Put", what, k)
		}
		switch k % 5 {
		case 1:
			x.e.Get(k / 2)
		case 2:
			again := k - min(k, uint64(x.e.Capacity())+k%7)
			if x.e.Put(again, 9); x.e.Len() > x.e.Capacity() {
				t.Fatalf("%s: %d keys", what, x.e.Len())
			}
			x.within(t, what)
		}
	}
	if x.e.Len() != x.e.Capacity() {
		t.Fatalf("%s: %d keys of %d", what, x.e.Len(), x.e.Capacity())
	}
}

// resize goes to another capacity.
func (x *roomy) resize(t *testing.T, c int) {
	t.Helper()
	x.greatest = max(x.greatest, c)
	if _, err := x.e.Resize(c); err != nil {
		t.Fatalf("Resize to %d: %v", c, err)
	}
	x.within(t, "Resize")
}

// P19.3: Rooms over far more keys than the capacity, also behind a Resize to less and to more again: never above the bound of the greatest capacity yet.
func TestRooms(t *testing.T) {
	eachPolicy(t, func(t *testing.T, policy int) {
		for _, c := range []int{1, 2, 3, 4, 7, 8, 20, 33, 100, 200, 1000} {
			x := &roomy{some(policy, c), c}
			x.within(t, "New")
			x.round(t, "many keys")
			x.resize(t, 1)
			x.round(t, "many keys in one place")
			for _, k := range x.e.Keys() {
				x.e.Delete(k)
			}
			x.within(t, "no keys")
			x.resize(t, c)
			x.round(t, "many keys again")
			x.resize(t, 2*c+1)
			x.round(t, "many keys in more places")
			x.resize(t, c)
			x.round(t, "many keys once more")
		}
	})
}

// P19.3: a capacity that isn't used up asks for no slots.
func TestRoomsOfFew(t *testing.T) {
	for _, policy := range five {
		e := some(policy, 1048576)
		for k := range uint64(6) {
			e.Put(k, k)
		}
		if nodes, keys := e.Rooms(); nodes > 88 || keys > 88 || nodes < 12 || keys < 12 {
			t.Errorf("policy %d: %d, %d", policy, nodes, keys)
		}
	}
}

// kept is how many bytes hang on a value beside itself.
func kept(t *testing.T, v reflect.Value, seen map[uintptr]bool) int {
	switch v.Kind() {
	case reflect.Pointer:
		if v.IsNil() || seen[v.Pointer()] {
			return 0
		}
		seen[v.Pointer()] = true
		return int(v.Type().Elem().Size()) + kept(t, v.Elem(), seen)
	case reflect.Interface:
		if v.IsNil() {
			return 0
		}
		return kept(t, v.Elem(), seen)
	case reflect.Struct:
		sum := 0
		for i := range v.NumField() {
			sum += kept(t, v.Field(i), seen)
		}
		return sum
	case reflect.Slice:
		sum := v.Cap() * int(v.Type().Elem().Size())
		for i := range v.Len() {
			sum += kept(t, v.Index(i), seen)
		}
		return sum
	case reflect.Map, reflect.Func, reflect.Chan:
		t.Fatalf("what hangs on a %s isn't counted", v.Type())
	}
	return 0
}

func keptBy(t *testing.T, e *Engine) int {
	return kept(t, reflect.ValueOf(e), map[uintptr]bool{})
}

// P4, P19.3: how much is kept is told by the greatest capacity, however many keys came and went, and however: what hangs on a slot of either kind is never more than its share.
func TestKeptByCapacities(t *testing.T) {
	eachPolicy(t, func(t *testing.T, policy int) {
		for _, c := range []int{1, 5, 20, 100} {
			e := some(policy, c)
			r := rand.New(rand.NewPCG(uint64(c), 193))
			d := &script{r: r, keys: someKeys(50*c + 50), most: c, gets: 4}
			for n := range 3000 {
				o := api.Op{Kind: 1 + r.IntN(3), Key: d.oneOf(d.keys), Val: d.val()}
				if n%100 == 0 {
					o = api.Op{Kind: api.Resize, N: 1 + r.IntN(c)}
				}
				e.Do(o)
				nodes, keys := e.Rooms()
				if got, most := keptBy(t, e), 1000+60*nodes+60*keys; n%10 == 0 && got > most {
					t.Fatalf("capacity %d: %d bytes behind %d operations, above %d", c, got, n, most)
				}
			}
		}
	})
}

// told is what an Engine told in lists: Out of an answer, and Keys.
type told struct {
	out  []api.Pair
	keys []uint64
}

func (a told) cloned() told { return told{slices.Clone(a.out), slices.Clone(a.keys)} }

func (a told) equal(b told) bool {
	return slices.Equal(a.out, b.out) && slices.Equal(a.keys, b.keys)
}

// overwrite writes a list all over, and the room behind its end.
func overwrite[T any](l []T, by T) {
	l = l[:cap(l)]
	for i := range l {
		l[i] = by
	}
}

// R3: no answer's Out, and no list of keys, that was told before is changed by a later call.
func TestToldStays(t *testing.T) {
	eachPolicy(t, func(t *testing.T, policy int) {
		r := rand.New(rand.NewPCG(3, uint64(210+policy)))
		d := &script{r: r, keys: someKeys(30), most: 12, resizes: 60, gets: 3}
		b := newBeside(t, policy, 8)
		var all, want []told
		for n := range 2000 {
			o := d.op(b.s)
			var a api.Answer
			if n%2 == 0 {
				a = b.e.Do(o)
			} else {
				a, _ = call(b.e, o)
			}
			b.catchUp(o)
			one := told{a.Out, b.e.Keys()}
			all, want = append(all, one), append(want, one.cloned())
		}
		for i := range all {
			if !all[i].equal(want[i]) {
				t.Fatalf("told before: %v, not %v", all[i], want[i])
			}
		}
	})
}

// R3: a write into an answer's Out, or a list of keys, that was told, or into the room behind it, changes no Engine, and no other list.
func TestWrittenOver(t *testing.T) {
	eachPolicy(t, func(t *testing.T, policy int) {
		for seed := range uint64(10) {
			r := rand.New(rand.NewPCG(seed, uint64(220+policy)))
			d := &script{r: r, keys: someKeys(8 + r.IntN(20)), most: 12, resizes: 60, gets: 3}
			b, other := newBeside(t, policy, 8), newBeside(t, policy, 3)
			for n := range 300 {
				o := d.op(b.s)
				want, _ := call(other.e, o) // of another one, that is written over, too
				out := b.e.Do(o)
				first, second := told{out.Out, b.e.Keys()}, told{want.Out, b.e.Keys()}
				unspoilt := second.cloned()
				overwrite(first.out, api.Pair{Key: mark, Val: mark})
				overwrite(first.keys, mark)
				if !second.equal(unspoilt) {
					t.Fatalf("%+v: a write over a list changed another one", o)
				}
				overwrite(second.out, api.Pair{Key: mark, Val: mark})
				overwrite(second.keys, mark)
				b.catchUp(o)
				other.catchUp(o)
				b.fits(t, fmt.Sprintf("%+v, written over", o))
				other.fits(t, fmt.Sprintf("%+v, of another one written over", o))
				if n%50 == 0 {
					b.sweep(t)
					other.sweep(t)
				}
			}
			b.sweep(t)
			other.sweep(t)
		}
	})
}

// R4: Engines share nothing, of whatever policy, and the same operations tell the same again.
func TestEnginesAreApart(t *testing.T) {
	r := rand.New(rand.NewPCG(4, 19))
	d := &script{r: r, keys: someKeys(16), most: 9, resizes: 40, gets: 4}
	var all []*beside
	for c := range 4 {
		for _, policy := range five {
			all = append(all, newBeside(t, policy, 1+2*c), newBeside(t, policy, 1+2*c))
		}
	}
	for n := range 12000 {
		b := all[r.IntN(len(all))]
		b.called = n%2 == 0
		b.take(t, d.op(b.s))
	}
	for _, b := range all {
		b.sweep(t)
	}
}

// R4: the same operations tell the same again.
func TestAgain(t *testing.T) {
	eachPolicy(t, func(t *testing.T, policy int) {
		r := rand.New(rand.NewPCG(5, uint64(230+policy)))
		d := &script{r: r, keys: someKeys(40), most: 20, resizes: 40, gets: 4}
		b, again := newBeside(t, policy, 15), some(policy, 15)
		var ops []api.Op
		var answers []api.Answer
		for range 1000 {
			o := d.op(b.s)
			ops, answers = append(ops, o), append(answers, b.take(t, o))
		}
		for i, o := range ops {
			if a := again.Do(o); !equalAnswers(a, answers[i]) {
				t.Fatalf("%+v, again: %+v, not %+v", o, a, answers[i])
			}
		}
	})
}

// R5: an Engine that didn't come of New may tell anything, but its calls end, and none panics.
func TestZeroEngineEnds(t *testing.T) {
	var e Engine
	for _, o := range triedOps() {
		e.Do(o)
		call(&e, o)
		e.Keys()
		e.Counts()
		e.Capacity()
		e.Ghosts()
		e.Rooms()
	}
}
