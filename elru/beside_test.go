package elru

import (
	"math"
	"math/rand/v2"
	"slices"
	"strconv"
	"testing"

	"hopper/api"
	"hopper/lru"
	"hopper/mix"
)

// kind is one of the calls that change a Cache.
type kind int

const (
	touch kind = iota
	admit
	drop
	resize
)

// step is such a call, with its key, or its capacity.
type step struct {
	kind kind
	k    uint64
	c    int
}

func (p step) String() string {
	switch p.kind {
	case touch:
		return "Touch " + strconv.FormatUint(p.k, 10)
	case admit:
		return "Admit " + strconv.FormatUint(p.k, 10)
	case drop:
		return "Drop " + strconv.FormatUint(p.k, 10)
	}
	return "Resize " + strconv.Itoa(p.c)
}

// do takes a step of a Cache.
func (p step) do(x *Cache) []uint64 {
	switch p.kind {
	case touch:
		x.Touch(p.k)
	case admit:
		return x.Admit(p.k)
	case drop:
		x.Drop(p.k)
	case resize:
		return x.Resize(p.c)
	}
	return nil
}

// follow takes it from lru's state.
func (p step) follow(s lru.State) (lru.State, []uint64) {
	switch p.kind {
	case touch:
		return lru.Touch(s, p.k), nil
	case admit:
		return lru.Admit(s, p.k)
	case drop:
		return lru.Drop(s, p.k), nil
	}
	return lru.Resize(s, p.c)
}

// slots are how many a store has that had so many keys at once.
type slots struct{ nodes, keys int }

func slotsOf(most int) slots {
	s := slots{8, 8}
	for n := 1; n <= most; n++ {
		if n == s.nodes { // slot 0 is no node's
			s.nodes *= 2
		}
		if 4*n > 3*s.keys {
			s.keys *= 2
		}
	}
	return s
}

// pair is a Cache beside lru's state, and what there was at most.
type pair struct {
	x           *Cache
	s           lru.State
	keys        int // how many were there at once
	capacity    int // the greatest one so far
	wantedSlots slots
}

func newPair(c int) *pair {
	s := lru.New(c)
	return &pair{x: New(c), s: s, capacity: s.C, wantedSlots: slotsOf(0)}
}

// take takes a step of both, holds what they tell against each other, and tells what was evicted.
func (b *pair) take(t *testing.T, p step, asked ...uint64) []uint64 {
	t.Helper()
	out := p.do(b.x)
	next, want := p.follow(b.s)
	b.s = next
	if !slices.Equal(out, want) {
		t.Fatalf("%v: evicted %d, not %d", p, out, want)
	}
	b.capacity = max(b.capacity, next.C)
	if len(next.L) > b.keys {
		b.keys = len(next.L)
		b.wantedSlots = slotsOf(b.keys)
	}
	b.fits(t, p.String(), append(asked, p.k))
	return out
}

// fits holds all that the Cache tells against what lru's functions tell of the state.
func (b *pair) fits(t *testing.T, what string, asked []uint64) {
	t.Helper()
	if s := b.x.State(); s.C != b.s.C || !slices.Equal(s.L, b.s.L) {
		t.Fatalf("%s, State: %d, not %d", what, s, b.s)
	}
	if keys, want := b.x.Keys(), lru.Keys(b.s); !slices.Equal(keys, want) {
		t.Fatalf("%s, Keys: %d, not %d", what, keys, want)
	}
	if g := b.x.Ghosts(); g != lru.Ghosts(b.s) {
		t.Fatalf("%s, Ghosts: %d", what, g)
	}
	for _, k := range asked {
		if b.x.Has(k) != lru.Has(b.s, k) {
			t.Fatalf("%s, Has %d: %t, of %d", what, k, b.x.Has(k), b.s)
		}
	}
	b.roomsFit(t, what)
}

// roomsFit holds Rooms against the bound, and against what a store of as many keys has.
func (b *pair) roomsFit(t *testing.T, what string) {
	t.Helper()
	nodes, keys := b.x.Rooms()
	if most := 12*b.capacity + 32; nodes > most || keys > most {
		t.Fatalf("%s, Rooms: %d, %d, above %d", what, nodes, keys, most)
	}
	if got := (slots{nodes, keys}); got != b.wantedSlots {
		t.Fatalf("%s, Rooms: %d, not %d, of %d keys at once", what, got, b.wantedSlots, b.keys)
	}
}

// triedKeys are those that steps are tried with: some of them are there, some aren't, and 9 never is.
func triedKeys() []uint64 { return list(0, 1, 2, 1<<32, greatest, 9) }

// triedCapacities are of all sorts.
func triedCapacities() []int {
	return []int{math.MinInt, -1, 0, 1, 2, 3, 4, 5, 1048576, 1048577, math.MaxInt}
}

// triedSteps are all calls that change a Cache, with those keys and capacities.
func triedSteps() []step {
	var all []step
	for _, k := range triedKeys() {
		all = append(all, step{kind: touch, k: k}, step{kind: admit, k: k}, step{kind: drop, k: k})
	}
	for _, c := range triedCapacities() {
		all = append(all, step{kind: resize, c: c})
	}
	return all
}

// apartLists are all lists of some keys, each once, that have no more than so many.
func apartLists(most int, keys []uint64) [][]uint64 {
	lists := [][]uint64{nil}
	for from, length := 0, 0; length < most; length++ {
		shorter := lists[from:]
		from = len(lists)
		for _, l := range shorter {
			for _, k := range keys {
				if !slices.Contains(l, k) {
					lists = append(lists, append(slices.Clone(l), k))
				}
			}
		}
	}
	return lists
}

// built is a pair of a capacity with just these keys.
func built(t *testing.T, c int, keys []uint64) *pair {
	t.Helper()
	b := newPair(c)
	for _, k := range slices.Backward(keys) {
		b.take(t, step{kind: admit, k: k})
	}
	return b
}

// P14.1: from all small states, each two calls are as lru's.
func TestAllStates(t *testing.T) {
	for c := 1; c <= 4; c++ {
		for _, l := range apartLists(c, triedKeys()[:5]) {
			for _, p := range triedSteps() {
				for _, q := range triedSteps() {
					b := built(t, c, l)
					b.take(t, p)
					b.take(t, q, triedKeys()...)
				}
			}
		}
	}
}

// script draws steps of some keys, and of those that came and went lately; none of strangers ever comes in.
type script struct {
	r         *rand.Rand
	keys      []uint64
	lately    []uint64
	strangers []uint64
	most      int // of its capacities
}

func (d *script) known() uint64 {
	if len(d.lately) > 0 && d.r.IntN(4) == 0 {
		return d.lately[d.r.IntN(len(d.lately))]
	}
	return d.keys[d.r.IntN(len(d.keys))]
}

func (d *script) key() uint64 {
	if d.r.IntN(8) == 0 {
		return d.strangers[d.r.IntN(len(d.strangers))]
	}
	return d.known()
}

func (d *script) step() step {
	switch n := d.r.IntN(100); {
	case n < 30:
		return step{kind: touch, k: d.key()}
	case n < 83:
		return step{kind: admit, k: d.known()}
	case n < 97:
		return step{kind: drop, k: d.key()}
	}
	return step{kind: resize, c: d.r.IntN(d.most+3) - 1}
}

// note lets the keys of a step come again soon.
func (d *script) note(p step, out []uint64) {
	d.lately = append(d.lately, out[:min(len(out), 4)]...)
	if p.kind == admit {
		d.lately = append(d.lately, p.k)
	}
	d.lately = d.lately[max(len(d.lately)-12, 0):]
}

// fewKeys are so many that all are asked for at each step.
func fewKeys(count int) []uint64 {
	keys := list(0, greatest, 1<<32)
	for len(keys) < count {
		keys = append(keys, uint64(len(keys)))
	}
	return keys
}

// manyKeys are far more than any capacity of a script: key 0, the greatest one, small ones, and ones that crowd round few places of the store's table.
func manyKeys(r *rand.Rand, count int) []uint64 {
	keys := list(0, greatest)
	for n := len(keys); n < count; n++ {
		if n%2 == 0 {
			keys = append(keys, uint64(n))
		} else {
			keys = append(keys, mix.Unmix(uint64(n)<<20|uint64(r.IntN(3))))
		}
	}
	return keys
}

// P14.1, P14.3: long scripts of few keys are as lru's behind each act, of all of them that are there, that were evicted or dropped, and that never were.
func TestScripts(t *testing.T) {
	strangers := list(77, 1<<63, greatest-1)
	for seed := range uint64(60) {
		r := rand.New(rand.NewPCG(seed, 14))
		keys := fewKeys(4 + r.IntN(20))
		d := &script{r: r, keys: keys, strangers: strangers, most: len(keys)}
		b := newPair(r.IntN(len(keys)+2) - 1)
		for range 600 {
			b.take(t, d.step(), append(keys, strangers...)...)
		}
	}
}

// fates are what became of keys at last: of one that never was there is none.
type fates map[uint64]string

func (f fates) follow(p step, out []uint64) {
	switch {
	case p.kind == admit:
		f[p.k] = "there"
	case p.kind == drop && f[p.k] == "there":
		f[p.k] = "dropped"
	}
	for _, k := range out {
		f[k] = "evicted"
	}
}

// P14.1, P14.3, P14.4: long scripts over far more keys than the capacity, also behind a Resize to less and to more again.
func TestScriptsOfManyKeys(t *testing.T) {
	for seed, most := range []int{1, 2, 3, 6, 7, 12, 13, 40, 150, 600} {
		r := rand.New(rand.NewPCG(uint64(seed), 141))
		d := &script{r: r, keys: manyKeys(r, 20*most+40), strangers: list(1<<40, 1<<40+1), most: most}
		b, f := newPair(most), fates{}
		asked, admitted := map[string]int{}, map[string]int{}
		for range 4000 {
			p := d.step()
			if p.kind == admit {
				admitted[f[p.k]]++
			}
			some := append(list(d.key(), d.key()), d.lately...)
			out := b.take(t, p, some...)
			f.follow(p, out)
			for _, k := range some {
				asked[f[k]]++
			}
			d.note(p, out)
		}
		for _, fate := range []string{"", "there", "evicted", "dropped"} {
			if asked[fate] == 0 || admitted[fate] == 0 {
				t.Errorf("capacities up to %d: none is asked for, or admitted, whose fate is %q", most, fate)
			}
		}
	}
}

// P14.1, P4, P6: with as many keys as there may be all is as lru has it, told by hand, as lists of that length are too slow to go from step to step.
func TestGreatestCapacity(t *testing.T) {
	const most, more = api.MaxCapacity, 1000
	x := New(math.MaxInt)
	for k := range uint64(most) {
		if out := x.Admit(k); len(out) > 0 {
			t.Fatalf("Admit %d: evicted %d", k, out)
		}
	}
	for k := range uint64(more) {
		same(t, "Admit, evicted", x.Admit(most+k), list(k))
	}
	x.Touch(more)
	same(t, "Admit behind a Touch, evicted", x.Admit(0), list(more+1))
	x.Drop(more + 2)
	same(t, "Admit behind a Drop, evicted", x.Admit(1), nil)
	same(t, "Resize above the greatest one, evicted", x.Resize(math.MaxInt), nil)

	want := list(1, 0, more)
	for k := uint64(most + more - 1); k > more+2; k-- {
		want = append(want, k)
	}
	s := x.State()
	if s.C != most || !slices.Equal(s.L, want) || !slices.Equal(x.Keys(), want) || len(want) != most {
		t.Errorf("%d of %d keys", len(s.L), s.C)
	}
	b := &pair{x: x, capacity: most, keys: most, wantedSlots: slotsOf(most)}
	b.roomsFit(t, "full")

	out := x.Resize(math.MinInt)
	slices.Reverse(out)
	if !slices.Equal(out, want[1:]) {
		t.Error("Resize below 1, evicted")
	}
	has(t, "Resize below 1", x, 1, list(1))
	b.roomsFit(t, "behind a Resize to 1")
}
