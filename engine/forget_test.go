package engine

import (
	"math/rand/v2"
	"slices"
	"testing"

	"hopper/api"
)

// forgetful is a map that an Engine is held against, by its answers alone: it knows no policy, so that it says which keys are there just as far as the answers do.
type forgetful struct {
	e       *Engine
	there   map[uint64]uint64
	puts    map[uint64]uint64 // what was put last, of keys that are there no more, too
	gone    map[uint64]bool   // what was deleted, or evicted, since it was put
	counts  api.Counts
	most    int // the greatest capacity so far
	current int
}

func newForgetful(policy, c int) *forgetful {
	return &forgetful{e: some(policy, c), there: map[uint64]uint64{}, puts: map[uint64]uint64{}, gone: map[uint64]bool{}, most: c, current: c}
}

// leave has keys go that an answer tells, each with what was put last.
func (f *forgetful) leave(t *testing.T, o api.Op, out []api.Pair) {
	t.Helper()
	for _, p := range out {
		v, ok := f.there[p.Key]
		if !ok || v != p.Val || o.Kind == api.Put && p.Key == o.Key {
			t.Fatalf("%+v: %+v was evicted, of %d, %t", o, p, v, ok)
		}
		delete(f.there, p.Key)
		f.gone[p.Key] = true
	}
	f.counts.Evicted += len(out)
}

// take does an operation, and asks whether its answer is one that a map that forgets may give.
func (f *forgetful) take(t *testing.T, o api.Op) {
	t.Helper()
	v, there := f.there[o.Key]
	count := len(f.there)
	want := api.Answer{}
	a := f.e.Do(o)
	switch o.Kind {
	case api.Get:
		want = api.Answer{Hit: there, Val: v}
		if there {
			f.counts.Hits++
		} else {
			f.counts.Misses++
		}
	case api.Put:
		want = api.Answer{Hit: there, Val: v}
		if !there {
			want.Out = a.Out
			if len(a.Out) > max(count+1-f.current, 0) || len(a.Out) < count+1-f.current {
				t.Fatalf("%+v of %d keys of %d: %d were evicted", o, count, f.current, len(a.Out))
			}
		}
		f.leave(t, o, want.Out)
		f.there[o.Key], f.puts[o.Key] = o.Val, o.Val
		delete(f.gone, o.Key)
	case api.Delete:
		want = api.Answer{Hit: there, Val: v}
		if there {
			f.gone[o.Key] = true
		}
		delete(f.there, o.Key)
	case api.Resize:
		if o.N < 1 || o.N > 1048576 {
			want.Err = api.ErrConfig
			break
		}
		want.Out = a.Out
		f.current, f.most = o.N, max(f.most, o.N)
		if len(a.Out) != max(count-o.N, 0) {
			t.Fatalf("%+v of %d keys: %d were evicted", o, count, len(a.Out))
		}
		f.leave(t, o, a.Out)
	case api.Len:
		want.N = count
	default:
		want.Err = api.ErrOp
	}
	if !equalAnswers(a, want) {
		t.Fatalf("%+v: %+v, not %+v", o, a, want)
	}
	f.fits(t, o)
}

// fits asks for what there is, and what there was, as far as it takes no long time.
func (f *forgetful) fits(t *testing.T, o api.Op) {
	t.Helper()
	if n := f.e.Len(); n != len(f.there) || n > f.current || f.e.Capacity() != f.current {
		t.Fatalf("%+v, Len: %d, not %d, of %d", o, n, len(f.there), f.current)
	}
	if c := f.e.Counts(); c != f.counts {
		t.Fatalf("%+v, Counts: %+v, not %+v", o, c, f.counts)
	}
	if nodes, keys := f.e.Rooms(); nodes > 24*f.most+64 || keys > 24*f.most+64 || nodes < len(f.there) || keys < len(f.there) {
		t.Fatalf("%+v, Rooms: %d, %d, with the greatest capacity %d", o, nodes, keys, f.most)
	}
}

// whole asks for all keys, and each key's value: one that was put, and isn't there, was deleted, or evicted, since.
func (f *forgetful) whole(t *testing.T) {
	t.Helper()
	keys := f.e.Keys()
	slices.Sort(keys)
	if len(slices.Compact(keys)) != len(f.there) {
		t.Fatalf("Keys: %d, not %d", len(keys), len(f.there))
	}
	for k := range f.puts {
		_, there := f.there[k]
		if _, ok := slices.BinarySearch(keys, k); ok != there || there == f.gone[k] {
			t.Fatalf("Keys: %d is there: %t, and gone: %t", k, ok, f.gone[k])
		}
		v, ok := f.e.Get(k)
		if ok != there || ok && v != f.puts[k] || !ok && v != 0 {
			t.Fatalf("Get of %d: %d, %t, not %d, %t", k, v, ok, f.puts[k], there)
		}
		if there {
			f.counts.Hits++
		} else {
			f.counts.Misses++
		}
	}
	f.fits(t, api.Op{})
}

// P19.5, P5: a map that forgets, over far more keys than the capacity, for long.
func TestForgets(t *testing.T) {
	eachPolicy(t, func(t *testing.T, policy int) {
		for _, c := range []int{1, 2, 3, 7, 40, 300, 3000} {
			r := rand.New(rand.NewPCG(uint64(c), uint64(205+policy)))
			f := newForgetful(policy, c)
			keys := someKeys(12*c + 9)
			for n := range 20000 {
				o := api.Op{Key: keys[r.IntN(len(keys))>>r.IntN(4)], Val: r.Uint64() >> r.IntN(64), N: r.IntN(c+2) + r.IntN(3) - 1}
				switch x := r.IntN(1000); {
				case x < 4:
					o.Kind = api.Resize
				case x < 8: // so that there is often all the room again
					o.Kind, o.N = api.Resize, c
				case x < 12:
					o.Kind = r.IntN(9) - 2
				case x < 60:
					o.Kind = api.Delete
				case x < 500:
					o.Kind = api.Get
				default:
					o.Kind = api.Put
				}
				f.take(t, o)
				if n%4000 == 3999 {
					f.whole(t)
				}
			}
		}
	})
}

// P19.5, P19.1: a key's whole life, of each policy: which value it has is told by the last Put alone, however it went and came again.
func TestLives(t *testing.T) {
	for _, policy := range five {
		f := newForgetful(policy, 4)
		for _, o := range opsOf("g9 p9=0 g9 p9=m g9 d9 g9 p9=1 g9 p9=2 g9 p1=3 p2=4 p3=5 p4=6 p5=7 p6=8 g9 p9=0 g9 d9 d9 g9 p9=m g9 r1 r4 g9 p9=7 g9 r0 g9 r1048577 g9 x0 g9 x6 g9 r1048576 g9 r3 g9 p0=m gm pm=0 gm g0 d0 dm l") {
			f.take(t, o)
		}
		f.whole(t)
	}
}
