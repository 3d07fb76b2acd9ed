package machine

import (
	"fmt"
	"math"
	"math/rand/v2"
	"reflect"
	"testing"

	"hopper/api"
	"hopper/arc"
	"hopper/lirs"
	"hopper/lru"
	"hopper/sthree"
	"hopper/twoq"
)

// listsIn are all lists in something: the fields of it, and of those, that are slices.
func listsIn(v reflect.Value) []reflect.Value {
	switch v.Kind() {
	case reflect.Slice:
		return []reflect.Value{v}
	case reflect.Struct:
		var all []reflect.Value
		for i := range v.NumField() {
			all = append(all, listsIn(v.Field(i))...)
		}
		return all
	}
	return nil
}

// scribble writes marks all over something.
func scribble(v reflect.Value) {
	switch v.Kind() {
	case reflect.Struct:
		for i := range v.NumField() {
			scribble(v.Field(i))
		}
	case reflect.Int:
		v.SetInt(-77)
	case reflect.Uint64:
		v.SetUint(7777)
	}
}

// spoil writes a list all over, and the room behind its last one.
func spoil(l reflect.Value) {
	l = l.Slice(0, l.Cap())
	for i := range l.Len() {
		scribble(l.Index(i))
	}
}

// roomy is a state with lists of its own that have marks behind their last ones, as whoever hands one in may have others in that room.
func roomy(s State) State {
	for _, l := range listsIn(reflect.ValueOf(&s).Elem()) {
		longer := reflect.MakeSlice(l.Type(), l.Len()+3, l.Len()+3)
		spoil(longer)
		reflect.Copy(longer, l)
		l.Set(longer.Slice(0, l.Len()))
	}
	return s
}

// wholes tells a state's lists, with the room behind their last ones.
func wholes(s State) string {
	text := ""
	for _, l := range listsIn(reflect.ValueOf(s)) {
		text += fmt.Sprint(l.Slice(0, l.Cap()).Interface())
	}
	return text
}

// telling is all that a step tells, and what is asked of the state behind it.
type telling struct {
	State  State
	Answer api.Answer
	Keys   []uint64
}

func tell(s State, o api.Op) telling {
	next, a := Step(s, o)
	return telling{next, a, Keys(next)}
}

// texts tells each of its lists.
func (l telling) texts() []string {
	var all []string
	for _, list := range listsIn(reflect.ValueOf(l)) {
		all = append(all, fmt.Sprint(list.Interface()))
	}
	return all
}

// someStates are some small ones of a policy that come of calls, and one from which much leaves.
func someStates(policy int) []State {
	all := []State{built(policy, 9, "p0=1 p1=2 p2=3 g0 p3=4 p4=5 p5=6 g1 g1 p6=7 p7=8 p8=9 pm=9 p9=1 p10=2 g10")}
	at := 0
	walk(policy, 400, func(s State) {
		if at++; at%5 == 0 {
			all = append(all, s)
		}
	})
	return all
}

// R3, R4: no call writes into a list that was handed in, or into the room behind it; a call tells the same once more.
func TestHandedInStays(t *testing.T) {
	eachPolicy(t, func(t *testing.T, policy int) {
		for _, s := range someStates(policy) {
			in := roomy(s)
			whole := wholes(in)
			for _, o := range triedOps() {
				first := fmt.Sprint(tell(in, o))
				Keys(in)
				Ghosts(in)
				Capacity(in)
				if wholes(in) != whole {
					t.Fatalf("%v of %v writes into it", o, s)
				}
				same(t, fmt.Sprintf("%v of %v, once more", o, s), tell(in, o), first)
			}
		}
	})
}

// R3: what is told shares nothing with what was handed in, and no two lists that are told share anything.
func TestNothingShared(t *testing.T) {
	eachPolicy(t, func(t *testing.T, policy int) {
		for _, s := range someStates(policy) {
			for _, o := range triedOps() {
				what := fmt.Sprintf("%v of %v", o, s)
				in := roomy(s)
				told := tell(in, o)
				want := told.texts()
				for _, l := range listsIn(reflect.ValueOf(in)) {
					spoil(l)
				}
				same(t, what+", behind a write into what was handed in", told.texts(), want)
				in = roomy(s)
				whole := wholes(in)
				told = tell(in, o)
				for i, l := range listsIn(reflect.ValueOf(told)) {
					spoil(l)
					same(t, what+", the other lists", told.texts()[i+1:], want[i+1:])
				}
				same(t, what+", handed in", wholes(in), whole)
				if t.Failed() {
					return
				}
			}
		}
	})
}

// R3: Keys tells a list of its own.
func TestKeysAreApart(t *testing.T) {
	eachPolicy(t, func(t *testing.T, policy int) {
		for _, s := range someStates(policy) {
			whole := wholes(s)
			spoil(reflect.ValueOf(Keys(s)))
			same(t, "behind a write into Keys", wholes(s), whole)
		}
	})
}

// R3, R4: of a long script no state, and no answer, that was told changes by what comes behind it.
func TestToldStays(t *testing.T) {
	eachPolicy(t, func(t *testing.T, policy int) {
		r := rand.New(rand.NewPCG(3, uint64(policy)))
		var told []telling
		var want []string
		keep := func(l telling) {
			told = append(told, l)
			want = append(want, fmt.Sprint(l))
		}
		s, _ := New(policy, 8)
		for range 300 {
			for range 3 { // of one state more than one other goes on
				keep(tell(s, someOp(r, 24)))
			}
			s, _ = Step(s, someOp(r, 24))
			keep(telling{State: s})
		}
		for i := range told {
			same(t, "told before", told[i], want[i])
		}
	})
}

// R4: two caches, even of one policy, have nothing to do with each other.
func TestApart(t *testing.T) {
	eachPolicy(t, func(t *testing.T, policy int) {
		r := rand.New(rand.NewPCG(4, uint64(policy)))
		a, _ := New(policy, 5)
		b, _ := New(policy, 3)
		ma, mb := newModel(policy, 5), newModel(policy, 3)
		for range 300 {
			oa, ob := someOp(r, 12), someOp(r, 12)
			a, _ = Step(a, oa)
			b, _ = Step(b, ob)
			ma.follow(oa)
			mb.follow(ob)
			fits(t, "one", a, ma)
			fits(t, "the other", b, mb)
		}
	})
}

// R2: nil and empty are the same.
func TestNilIsEmpty(t *testing.T) {
	for _, policy := range five {
		s, _ := New(policy, 2)
		empty := s
		for _, l := range listsIn(reflect.ValueOf(&empty).Elem()) {
			l.Set(reflect.MakeSlice(l.Type(), 0, 0))
		}
		for _, o := range triedOps() {
			same(t, fmt.Sprintf("%v of policy %d", o, policy), tell(empty, o), tell(s, o))
		}
	}
}

// P1: a call ends, whatever it is given: of a policy that there isn't, of capacities that may not be, of keys without pairs, and of pairs without keys.
func TestOddStatesEnd(t *testing.T) {
	odd := []uint64{1, 0, 1, greatest}
	items := []sthree.Item{{Key: 1, Freq: 9}, {Key: 0, Freq: -1}, {Key: 1, Freq: 2}}
	stack := []lirs.Item{{Key: 1, Kind: 7}, {Key: 0, Kind: lirs.Hot}, {Key: 1, Kind: lirs.Cold}, {Key: 2, Kind: lirs.Gone}}
	for _, c := range []int{math.MinInt, -1, 0, 1, 2, math.MaxInt} {
		for _, policy := range []int{math.MinInt, -1, 0, 1, 2, 3, 4, 5, 6, math.MaxInt} {
			for _, pairs := range [][]api.Pair{nil, {{Key: 5, Val: 6}}, {{Key: 1, Val: 2}, {Key: 1, Val: 3}}} {
				for _, s := range []State{
					{Policy: policy, Pairs: pairs},
					{policy, lru.State{C: c, L: odd}, twoq.State{C: c, In: odd, Out: odd, Main: odd}, sthree.State{C: c, Small: items, Main: items, Ghost: odd},
						arc.State{C: c, P: c, T1: odd, T2: odd, B1: odd, B2: odd}, lirs.State{C: c, S: stack, Q: odd}, pairs, api.Counts{}},
				} {
					for _, o := range triedOps() {
						tell(s, o)
					}
					Keys(s)
					Ghosts(s)
					Capacity(s)
				}
			}
		}
	}
}

// run is the keys from one to another one.
func run(from, to uint64) []uint64 {
	var l []uint64
	for k := from; k <= to; k++ {
		l = append(l, k)
	}
	return l
}

// fullest is a state of the greatest capacity, with as many keys as there may be, of which each has the value that is twice as much; the key 1 leaves first.
func fullest(policy int) State {
	const most = api.MaxCapacity
	s, _ := New(policy, most)
	keys := run(1, most)
	for _, k := range keys {
		s.Pairs = append(s.Pairs, api.Pair{Key: k, Val: 2 * k})
	}
	var back []uint64
	var items []sthree.Item
	var hot []lirs.Item
	for i := range keys {
		k := keys[most-1-i]
		back = append(back, k)
		items = append(items, sthree.Item{Key: k})
		if i < most-most/100 {
			hot = append(hot, lirs.Item{Key: k, Kind: lirs.Hot})
		}
	}
	s.Lru.L, s.Twoq.In, s.Sthree.Small, s.Arc.T1 = back, back, items, back
	s.Lirs.S, s.Lirs.Q = hot, keys[:most/100]
	only := State{Policy: policy, Pairs: s.Pairs}
	at := reflect.ValueOf(&only).Elem().FieldByName(fieldName(policy))
	at.Set(reflect.ValueOf(s).FieldByName(fieldName(policy)))
	return only
}

// P1, P13.2: with as many keys as there may be, each operation ends soon, and tells what it should.
func TestGreatestCapacity(t *testing.T) {
	const most = api.MaxCapacity
	eachPolicy(t, func(t *testing.T, policy int) {
		full := fullest(policy)
		for _, x := range []struct{ op, answer string }{
			{"g1", "hit 2"}, {"g1048576", "hit 2097152"}, {"g0", ""}, {"p1048576=m", "hit 2097152"}, {"p0=m", "out 1=2"},
			{"d1", "hit 2"}, {"dm", ""}, {"r1048576", ""}, {"r1048575", "out 1=2"}, {"r1048577", "err 1"}, {"l", "n 1048576"}, {"x6", "err 2"},
		} {
			next, a := Step(full, op(x.op))
			same(t, x.op, a, answer(x.answer))
			if n := len(Keys(next)); n != len(next.Pairs) || n > most || n < most-1 {
				t.Errorf("%s: %d keys, %d pairs", x.op, n, len(next.Pairs))
			}
		}
		if k := Keys(full); len(k) != most || Capacity(full) != most || Ghosts(full) != 0 {
			t.Errorf("%d keys", len(k))
		}
	})
}

// P1, P6, P13.2: all keys but one are evicted at once, with their values.
func TestGreatestResize(t *testing.T) {
	const most = api.MaxCapacity
	eachPolicy(t, func(t *testing.T, policy int) {
		next, a := Step(fullest(policy), op("r1"))
		left := make([]bool, most+1)
		for _, p := range a.Out {
			if p.Val != 2*p.Key || left[p.Key] {
				t.Fatalf("%v was evicted", p)
			}
			left[p.Key] = true
		}
		if len(a.Out) != most-1 || len(next.Pairs) != 1 || left[next.Pairs[0].Key] || next.Counts.Evicted != most-1 || Capacity(next) != 1 {
			t.Errorf("%d were evicted, %v stay", len(a.Out), next.Pairs)
		}
		same(t, "Keys", Keys(next), []uint64{next.Pairs[0].Key})
	})
}
