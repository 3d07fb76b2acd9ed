package etwoq

import (
	"math"
	"math/rand/v2"
	"slices"
	"strconv"
	"testing"

	"hopper/api"
	"hopper/mix"
	"hopper/twoq"
)

// slots are how many a store has that had so many keys at once.
type slots struct{ nodes, keys int }

func slotsOf(most int) slots {
	s := slots{8, 8}
	for n := 1; n <= most; n++ {
		if n == s.nodes { // slot 0 is no node's
			s.nodes *= 2
		}
		if 4*n > 3*s.keys {
			s.keys *= 2
		}
	}
	return s
}

// pair is a Cache beside twoq's state, and what there was at most.
type pair struct {
	x        *Cache
	s        twoq.State
	keys     int // how many were there, or remembered, at once
	capacity int // the greatest one so far
	want     slots
}

func newPair(c int) *pair {
	s := twoq.New(c)
	return &pair{x: New(c), s: s, capacity: s.C, want: slotsOf(0)}
}

// reached notes how much there is.
func (b *pair) reached() {
	b.capacity = max(b.capacity, b.s.C)
	if n := len(b.s.In) + len(b.s.Out) + len(b.s.Main); n > b.keys {
		b.keys, b.want = n, slotsOf(n)
	}
}

// take takes a step of both, holds what they tell against each other, and tells what was evicted.
func (b *pair) take(t *testing.T, p step, asked ...uint64) []uint64 {
	t.Helper()
	there := len(b.s.In) + len(b.s.Main)
	out := p.do(b.x)
	next, want := p.follow(b.s)
	b.s = next
	if !slices.Equal(out, want) {
		t.Fatalf("%v: evicted %d, not %d", p, out, want)
	}
	if p.kind == resize && len(out) != max(there-next.C, 0) { // P6
		t.Fatalf("%v of %d keys: %d were evicted", p, there, len(out))
	}
	b.reached()
	b.fits(t, p.String(), append(asked, p.k))
	return out
}

// fits holds all that the Cache tells against what twoq's functions tell of the state.
func (b *pair) fits(t *testing.T, what string, asked []uint64) {
	t.Helper()
	s := b.x.State()
	if !equal(s, b.s) {
		t.Fatalf("%s, State: %d, not %d", what, s, b.s)
	}
	keys := b.x.Keys()
	if want := twoq.Keys(b.s); !slices.Equal(keys, want) {
		t.Fatalf("%s, Keys: %d, not %d", what, keys, want)
	}
	if g := b.x.Ghosts(); g != twoq.Ghosts(b.s) {
		t.Fatalf("%s, Ghosts: %d", what, g)
	}
	if len(keys) > s.C || 2*b.x.Ghosts() > s.C { // P4
		t.Fatalf("%s: too many keys: %d", what, s)
	}
	for _, k := range asked {
		if b.x.Has(k) != twoq.Has(b.s, k) {
			t.Fatalf("%s, Has %d: %t, of %d", what, k, b.x.Has(k), b.s)
		}
	}
	b.roomsFit(t, what)
}

// roomsFit holds Rooms against the bound, and against what a store of as many keys has.
func (b *pair) roomsFit(t *testing.T, what string) {
	t.Helper()
	nodes, keys := b.x.Rooms()
	if most := 12*b.capacity + 32; nodes > most || keys > most {
		t.Fatalf("%s, Rooms: %d, %d, above %d", what, nodes, keys, most)
	}
	if got := (slots{nodes, keys}); got != b.want {
		t.Fatalf("%s, Rooms: %d, not %d, of %d keys at once", what, got, b.want, b.keys)
	}
}

// built is a pair with just a state.
func built(t *testing.T, s twoq.State) *pair {
	t.Helper()
	c, steps := building(s)
	b := newPair(c)
	for _, p := range steps {
		b.take(t, p)
	}
	if !equal(b.s, s) {
		t.Fatalf("built %d, not %d", b.s, s)
	}
	return b
}

// again is the same pair once more, for other steps.
func (b *pair) again() *pair {
	c := *b
	c.x = cache(b.s)
	return &c
}

// triedCapacities are of all sorts.
func triedCapacities() []int {
	return []int{math.MinInt, -1, 0, 1, 2, 3, 4, 5, 8, 1048576, 1048577, math.MaxInt}
}

// triedSteps are all calls that change a Cache, with some keys and those capacities.
func triedSteps(keys []uint64) []step {
	var all []step
	for _, k := range keys {
		all = append(all, toTouch(k), toAdmit(k), toDrop(k))
	}
	for _, c := range triedCapacities() {
		all = append(all, toResize(c))
	}
	return all
}

// triedStates are all that a Cache of a capacity can come to, up to the keys' names.
func triedStates(c int) []twoq.State {
	names := append(list(0, greatest, 1<<32), run(1, 20)...)
	var all []twoq.State
	for there := range c + 1 {
		for fresh := range there + 1 {
			for ghosts := range c/2 + 1 {
				turned := len(all) % 3
				l := append(slices.Clone(names[turned:]), names[:turned]...)
				all = append(all, state(c, l[:fresh], l[there:there+ghosts], l[fresh:there]))
			}
		}
	}
	return all
}

// keysOf are all keys of a state's lists, and two of none of them.
func keysOf(s twoq.State) []uint64 {
	return slices.Concat(s.In, s.Out, s.Main, list(77, 1<<63))
}

// P15.1: from all states of small capacities, each two calls are as twoq's.
func TestAllStates(t *testing.T) {
	for c := 1; c <= 4; c++ {
		for _, s := range triedStates(c) {
			first := built(t, s)
			steps, asked := triedSteps(keysOf(s)), keysOf(s)
			for _, p := range steps {
				for _, q := range steps {
					b := first.again()
					b.take(t, p)
					b.take(t, q, asked...)
				}
			}
		}
	}
}

// P15.1: from all states of greater capacities, where In keeps more than a key, too, each call is as twoq's.
func TestAllStatesOfMoreKeys(t *testing.T) {
	for c := 5; c <= 9; c++ {
		for _, s := range triedStates(c) {
			first := built(t, s)
			asked := keysOf(s)
			for _, p := range triedSteps(asked) {
				first.again().take(t, p, asked...)
			}
		}
	}
}

// script draws steps. Keys are any of some, ones that are in a list, and ones that came or went lately; none of strangers is ever admitted.
type script struct {
	r         *rand.Rand
	keys      []uint64
	lately    []uint64
	strangers []uint64
	most      int // of its capacities
	resizes   int // of 1000 steps
}

func (d *script) oneOf(l []uint64) uint64 { return l[d.r.IntN(len(l))] }

func (d *script) known(s twoq.State) uint64 {
	lists := [][]uint64{d.keys, d.keys, d.lately, s.In, s.Main, s.Out, s.Out}
	if l := lists[d.r.IntN(len(lists))]; len(l) > 0 {
		return d.oneOf(l)
	}
	return d.oneOf(d.keys)
}

func (d *script) key(s twoq.State) uint64 {
	if d.r.IntN(8) == 0 {
		return d.oneOf(d.strangers)
	}
	return d.known(s)
}

// capacity is any one, or one near a state's.
func (d *script) capacity(s twoq.State) int {
	if d.r.IntN(2) == 0 {
		return d.r.IntN(d.most+3) - 1
	}
	return min(s.C+2-d.r.IntN(5), d.most+1)
}

func (d *script) step(s twoq.State) step {
	if d.r.IntN(1000) < d.resizes {
		return toResize(d.capacity(s))
	}
	switch n := d.r.IntN(10); {
	case n < 3:
		return toTouch(d.key(s))
	case n < 9:
		return toAdmit(d.known(s))
	}
	return toDrop(d.key(s))
}

// note lets the keys of a step come again soon.
func (d *script) note(p step, out []uint64) {
	d.lately = append(d.lately, out[:min(len(out), 4)]...)
	if p.kind == admit || p.kind == drop {
		d.lately = append(d.lately, p.k)
	}
	d.lately = d.lately[max(len(d.lately)-12, 0):]
}

// fewKeys are so many that all are asked for at each step.
func fewKeys(count int) []uint64 {
	keys := list(0, greatest, 1<<32)
	for len(keys) < count {
		keys = append(keys, uint64(len(keys)))
	}
	return keys
}

// manyKeys are far more than any capacity of a script: key 0, the greatest one, small ones, and ones that crowd round few places of the store's table.
func manyKeys(r *rand.Rand, count int) []uint64 {
	keys := list(0, greatest)
	for n := len(keys); n < count; n++ {
		if n%2 == 0 {
			keys = append(keys, uint64(n))
		} else {
			keys = append(keys, mix.Unmix(uint64(n)<<20|uint64(r.IntN(3))))
		}
	}
	return keys
}

// P15.1, P15.3: long scripts of few keys are as twoq's behind each act, of all of them, wherever they are, or were.
func TestScripts(t *testing.T) {
	strangers := list(77, 1<<63, greatest-1)
	for seed := range uint64(80) {
		r := rand.New(rand.NewPCG(seed, 15))
		keys := fewKeys(4 + r.IntN(30))
		d := &script{r: r, keys: keys, strangers: strangers, most: len(keys), resizes: 30}
		b := newPair(r.IntN(len(keys)+2) - 1)
		asked := append(keys, strangers...)
		for range 600 {
			p := d.step(b.s)
			d.note(p, b.take(t, p, asked...))
		}
	}
}

// fates are what became of keys at last: of one that never was there is none.
type fates map[uint64]string

// follow notes what a step made of a state.
func (f fates) follow(p step, evicted []uint64, s twoq.State) {
	switch was := f[p.k]; {
	case p.kind == admit && slices.Contains(s.In, p.k):
		f[p.k] = "in In"
	case p.kind == admit:
		f[p.k] = "in Main"
	case p.kind == drop && (was == "in In" || was == "in Main" || was == "remembered"):
		f[p.k] = "dropped, once " + was
	}
	for _, k := range evicted {
		f[k] = "forgotten"
	}
	if len(evicted) == 0 && p.kind != resize {
		return
	}
	for k, was := range f {
		if was == "remembered" {
			f[k] = "forgotten"
		}
	}
	for _, k := range s.Out {
		f[k] = "remembered"
	}
}

// allFates are all that follow notes, and that of a key that never was.
func allFates() []string {
	return []string{"", "in In", "in Main", "remembered", "forgotten", "dropped, once in In", "dropped, once in Main", "dropped, once remembered"}
}

// met counts what scripts do of keys of which fate.
type met map[string]int

func (m met) all(t *testing.T, what string) {
	t.Helper()
	for _, fate := range allFates() {
		for _, act := range []string{"Has", "Touch", "Admit", "Drop"} {
			if m[act+" "+fate] == 0 {
				t.Errorf("%s: no %s of a key that is %q", what, act, fate)
			}
		}
	}
}

// run has a pair play a script, and tells what it met.
func (d *script) run(t *testing.T, b *pair, count int) met {
	t.Helper()
	f, m := fates{}, met{}
	names := []string{touch: "Touch", admit: "Admit", drop: "Drop", resize: "Resize"}
	for range count {
		p := d.step(b.s)
		m[names[p.kind]+" "+f[p.k]]++
		some := append(list(d.key(b.s), d.key(b.s)), d.lately...)
		out := b.take(t, p, some...)
		f.follow(p, out, b.s)
		for _, k := range some {
			m["Has "+f[k]]++
		}
		d.note(p, out)
	}
	return m
}

// P15.1, P15.3, P15.4: long scripts over far more keys than the capacity, also behind a Resize to less and to more again.
func TestScriptsOfManyKeys(t *testing.T) {
	for seed, most := range []int{1, 2, 3, 4, 6, 7, 8, 13, 40, 150} {
		for _, resizes := range []int{2, 30} {
			r := rand.New(rand.NewPCG(uint64(seed), 151))
			d := &script{r: r, keys: manyKeys(r, 20*most+40), strangers: list(1<<40, 1<<40+1), most: most, resizes: resizes}
			m := d.run(t, newPair(most), 5000)
			if most > 3 {
				m.all(t, "capacities up to "+strconv.Itoa(most))
			}
		}
	}
}

// P15.1, P4, P6: with as many keys as there may be; behind what is told by hand, single steps are held against twoq's, as lists of that length are too slow to go all the way with.
func TestGreatestCapacity(t *testing.T) {
	const most, half, more = api.MaxCapacity, api.MaxCapacity / 2, 1000
	x := New(math.MaxInt)
	for k := range uint64(most) {
		if out := x.Admit(k); len(out) > 0 {
			t.Fatalf("Admit %d: evicted %d", k, out)
		}
	}
	for k := range uint64(half + more) {
		if out := x.Admit(most + k); !slices.Equal(out, list(k)) {
			t.Fatalf("Admit %d: evicted %d", most+k, out)
		}
	}
	b := &pair{x: x, s: state(most, run(half+more, most+half+more-1), run(more, half+more-1), nil)}
	slices.Reverse(b.s.In)
	slices.Reverse(b.s.Out)
	b.reached()
	b.fits(t, "full", list(0, more-1, more, half+more-1, half+more, most+half+more-1, most+half+more))

	for k := range uint64(half) { // so that Main has some, and In less
		out := x.Admit(more + k)
		if len(out) != 1 {
			t.Fatalf("Admit %d: evicted %d", more+k, out)
		}
	}
	b.s = x.State()
	if len(b.s.In) != half || len(b.s.Out) != half || len(b.s.Main) != half {
		t.Fatalf("%d in In, %d in Out, %d in Main", len(b.s.In), len(b.s.Out), len(b.s.Main))
	}
	same(t, "Main's last two keys", b.s.Main[half-2:], list(more+1, more))
	for _, p := range []step{
		toTouch(more), toTouch(b.s.In[5]), toTouch(b.s.Out[5]), toDrop(more + 7), toDrop(b.s.In[7]), toDrop(b.s.Out[7]),
		toAdmit(0), toAdmit(b.s.Out[9]), toAdmit(1), toAdmit(b.s.Out[half-1]), toAdmit(b.s.In[0]),
		toResize(math.MaxInt), toResize(half + half/2), toAdmit(2), toResize(most), toAdmit(3),
		toResize(half), toAdmit(more + 1), toResize(math.MinInt), toAdmit(4), toResize(math.MaxInt),
	} {
		b.take(t, p, 0, 1, 2, 3, 4, more)
	}
}
