package engine

import (
	"fmt"
	"math"
	"math/rand/v2"
	"reflect"
	"slices"
	"testing"

	"hopper/api"
	"hopper/config"
	"hopper/earc"
	"hopper/elirs"
	"hopper/elru"
	"hopper/esthree"
	"hopper/etwoq"
	"hopper/lirs"
	"hopper/machine"
	"hopper/sthree"
)

// beside is an Engine beside machine's state, and what there was at most. The cache of the policy's package, that goes the same way, tells how many slots its stores have.
type beside struct {
	e        *Engine
	s        machine.State
	alone    alone
	keys     int // how many were there at once
	capacity int // the greatest one so far
	// called says that operations are done by the calls that they have for themselves.
	called bool
}

// alone are the calls of a policy's cache that the slots hang on.
type alone interface {
	Touch(k uint64)
	Admit(k uint64) []uint64
	Drop(k uint64)
	Resize(c int) []uint64
	Has(k uint64) bool
	Rooms() (int, int)
}

func aloneOf(policy, c int) alone {
	return map[int]alone{
		api.LRU: elru.New(c), api.TwoQ: etwoq.New(c), api.S3: esthree.New(c), api.ARC: earc.New(c), api.LIRS: elirs.New(c),
	}[policy]
}

func newBeside(t *testing.T, policy, c int) *beside {
	t.Helper()
	e, err := New(policy, c)
	s, wrong := machine.New(policy, c)
	if !reflect.DeepEqual(err, wrong) || err != nil {
		t.Fatalf("New of %d and %d: %v, %v", policy, c, err, wrong)
	}
	b := &beside{e: e, s: s, alone: aloneOf(policy, c), capacity: c}
	b.fits(t, "New")
	return b
}

// equalAnswers holds two answers against each other, by all fields.
func equalAnswers(a, b api.Answer) bool {
	return a.Hit == b.Hit && a.Val == b.Val && a.N == b.N && a.Err == b.Err && slices.Equal(a.Out, b.Out)
}

// take does an operation with both, and holds all that they tell against each other.
func (b *beside) take(t *testing.T, o api.Op) api.Answer {
	t.Helper()
	what := fmt.Sprintf("%+v", o)
	ahead := len(b.s.Pairs)
	next, want := machine.Step(b.s, o)
	b.s = next
	if b.called {
		got, err := call(b.e, o)
		if !equalAnswers(got, toldByCall(o, want)) {
			t.Fatalf("the call of %s: %+v, not %+v", what, got, want)
		}
		if o.Kind == api.Resize && !reflect.DeepEqual(err, config.May(b.s.Policy, o.N)) {
			t.Fatalf("the call of %s: %v", what, err)
		}
	} else if got := b.e.Do(o); !equalAnswers(got, want) {
		t.Fatalf("%s: %+v, not %+v", what, got, want)
	}
	if o.Kind == api.Resize && want.Err == api.OK && len(want.Out) != max(ahead-o.N, 0) { // P6
		t.Fatalf("%s of %d keys: %d were evicted", what, ahead, len(want.Out))
	}
	b.follow(o)
	b.fits(t, what)
	return want
}

// catchUp has machine go the way that the Engine went already.
func (b *beside) catchUp(o api.Op) {
	b.s, _ = machine.Step(b.s, o)
	b.follow(o)
}

// follow has the policy's cache alone go the same way.
func (b *beside) follow(o api.Op) {
	there := b.alone.Has(o.Key)
	switch {
	case o.Kind == api.Get && there, o.Kind == api.Put && there:
		b.alone.Touch(o.Key)
	case o.Kind == api.Put:
		b.alone.Admit(o.Key)
	case o.Kind == api.Delete:
		b.alone.Drop(o.Key)
	case o.Kind == api.Resize && o.N >= 1 && o.N <= 1048576:
		b.alone.Resize(o.N)
	}
	b.keys = max(b.keys, len(b.s.Pairs))
	b.capacity = max(b.capacity, machine.Capacity(b.s))
}

// fits holds all that an Engine tells of itself, without changing it, against machine's.
func (b *beside) fits(t *testing.T, what string) {
	t.Helper()
	keys := b.e.Keys()
	if want := machine.Keys(b.s); !slices.Equal(keys, want) {
		t.Fatalf("%s, Keys: %d, not %d", what, keys, want)
	}
	if g := b.e.Ghosts(); g != machine.Ghosts(b.s) {
		t.Fatalf("%s, Ghosts: %d, not %d", what, g, machine.Ghosts(b.s))
	}
	if c := b.e.Capacity(); c != machine.Capacity(b.s) || len(keys) > c { // P4
		t.Fatalf("%s, Capacity: %d, not %d, with %d keys", what, c, machine.Capacity(b.s), len(keys))
	}
	if c := b.e.Counts(); c != b.s.Counts {
		t.Fatalf("%s, Counts: %+v, not %+v", what, c, b.s.Counts)
	}
	if n := b.e.Len(); n != len(b.s.Pairs) || n != len(keys) {
		t.Fatalf("%s, Len: %d, not %d", what, n, len(b.s.Pairs))
	}
	b.roomsFit(t, what)
}

// roomsFit holds Rooms against the bound, and against what there must be: the slots of the policy's stores, and beside them those of a store that has what the keys have, a slot of each kind for each of them, and no more than a store has of as many as were there at once (one more may come ahead of what is evicted for it).
func (b *beside) roomsFit(t *testing.T, what string) {
	t.Helper()
	nodes, keys := b.e.Rooms()
	if most := 24*b.capacity + 64; nodes > most || keys > most {
		t.Fatalf("%s, Rooms: %d, %d, above %d", what, nodes, keys, most)
	}
	policyNodes, policyKeys := b.alone.Rooms()
	least, most := b.keys, 3*(b.keys+1)+8
	if nodes -= policyNodes; nodes < least || nodes > most {
		t.Fatalf("%s, Rooms: %d nodes beside the policy's %d, not from %d to %d", what, nodes, policyNodes, least, most)
	}
	if keys -= policyKeys; keys < least || keys > most {
		t.Fatalf("%s, Rooms: %d keys beside the policy's %d, not from %d to %d", what, keys, policyKeys, least, most)
	}
}

// sweep gets all that is there, from the front on, so that each value is held against machine's.
func (b *beside) sweep(t *testing.T) {
	t.Helper()
	for _, k := range machine.Keys(b.s) {
		if a := b.take(t, api.Op{Kind: api.Get, Key: k}); !a.Hit {
			t.Fatalf("%d isn't there", k)
		}
	}
}

// triedOps are all sorts of operations, with keys that are tried, and with what is of no use to them.
func triedOps() []api.Op {
	var all []api.Op
	for i, k := range []uint64{0, 1, 1 << 32, greatest, 1<<32 | 1} {
		all = append(all, api.Op{Kind: api.Get, Key: k, Val: 77, N: 1}, api.Op{Kind: api.Delete, Key: k, Val: 77, N: -1},
			api.Op{Kind: api.Put, Key: k, Val: uint64(i) * 10, N: 2}, api.Op{Kind: api.Put, Key: k, Val: greatest, N: 1048577})
	}
	for _, n := range []int{math.MinInt, -1, 0, 1, 2, 3, 1048577, math.MaxInt} {
		all = append(all, api.Op{Kind: api.Resize, N: n, Key: 1, Val: 77})
	}
	all = append(all, api.Op{Kind: api.Len, Key: 1, Val: 77, N: 1})
	for _, kind := range []int{math.MinInt, -1, 0, 6, math.MaxInt} {
		all = append(all, api.Op{Kind: kind, Key: 1, Val: 77, N: 1})
	}
	return all
}

// came is a machine's state, and the way from New to it.
type came struct {
	c   int
	way []api.Op
	s   machine.State
}

// walk goes from the states of a policy and capacities 1 to 3 through all that they lead to, the nearest ones first, up to so many; each is met once, however it is counted.
func walk(policy, most int, visit func(x came)) {
	var all []came
	met := map[string]bool{}
	meet := func(x came) {
		name := x.s
		name.Counts = api.Counts{}
		if text := fmt.Sprint(name); !met[text] {
			met[text] = true
			all = append(all, x)
		}
	}
	for c := 1; c <= 3; c++ {
		s, _ := machine.New(policy, c)
		meet(came{c: c, s: s})
	}
	for i := 0; i < len(all) && i < most; i++ {
		visit(all[i])
		for _, o := range triedOps() {
			s, _ := machine.Step(all[i].s, o)
			meet(came{all[i].c, append(slices.Clip(all[i].way), o), s})
		}
	}
}

// gone is an Engine beside machine's state that went the way.
func (x came) gone(t *testing.T, called bool) *beside {
	t.Helper()
	b := newBeside(t, x.s.Policy, x.c)
	b.called = called
	for _, o := range x.way {
		b.take(t, o)
	}
	return b
}

// P19.1, P19.2: from small states that come of calls each operation is as machine's, by Do, and by its own call, and each value behind it.
func TestManyStates(t *testing.T) {
	eachPolicy(t, func(t *testing.T, policy int) {
		walk(policy, 1200, func(x came) {
			for i, o := range triedOps() {
				b := x.gone(t, i%2 == 0)
				b.called = !b.called
				b.take(t, o)
				b.sweep(t)
			}
		})
	})
}

// remembered are the keys that a state has, but that aren't there.
func remembered(s machine.State) []uint64 {
	all := slices.Concat(s.Twoq.Out, s.Sthree.Ghost, s.Arc.B1, s.Arc.B2)
	for _, item := range s.Lirs.S {
		if item.Kind == lirs.Gone {
			all = append(all, item.Key)
		}
	}
	return all
}

// fates are what became of keys: of one that never was there is none.
type fates map[uint64]string

// follow notes what an operation made of the state ahead of it.
func (f fates) follow(o api.Op, ahead, s machine.State, out []api.Pair) {
	for _, p := range out {
		f[p.Key] = "evicted"
	}
	known := map[uint64]bool{}
	for _, k := range remembered(s) {
		known[k] = true
		f[k] = "remembered"
	}
	for _, k := range remembered(ahead) {
		if !known[k] {
			f[k] = "forgotten"
		}
	}
	if o.Kind == api.Delete && f[o.Key] != "" {
		f[o.Key] = "deleted"
	}
	for _, p := range s.Pairs {
		f[p.Key] = "there"
	}
}

// script draws operations. Keys are any of some, ones that are there, or remembered, and ones that came or went lately.
type script struct {
	r       *rand.Rand
	keys    []uint64
	lately  []uint64
	most    int // of its capacities
	resizes int // of 1000 operations
	gets    int // of 10 of the others
}

func (d *script) oneOf(l []uint64) uint64 { return l[d.r.IntN(len(l))] }

func (d *script) key(s machine.State) uint64 {
	lists := [][]uint64{d.keys, d.keys, d.lately, remembered(s)}
	if l := lists[d.r.IntN(len(lists))]; len(l) > 0 {
		return d.oneOf(l)
	}
	if n := len(s.Pairs); n > 0 {
		return s.Pairs[d.r.IntN(n)].Key
	}
	return d.oneOf(d.keys)
}

// val is of all sizes, and often at an end.
func (d *script) val() uint64 {
	switch d.r.IntN(8) {
	case 0:
		return 0
	case 1:
		return greatest
	}
	return d.r.Uint64() >> d.r.IntN(64)
}

// capacity is any one, or one near a state's, or one that may not be, or a great one.
func (d *script) capacity(s machine.State) int {
	switch d.r.IntN(12) {
	case 0:
		return []int{0, -1, 1048577, math.MinInt, math.MaxInt, 1 << 32, 1<<32 | 1}[d.r.IntN(7)]
	case 1:
		return []int{1, 1, 1048575, 1048576}[d.r.IntN(4)]
	case 2, 3, 4:
		return 1 + d.r.IntN(d.most)
	case 5, 6:
		return len(s.Pairs) + 1 - d.r.IntN(4)
	}
	return min(machine.Capacity(s)+3-d.r.IntN(6), d.most)
}

func (d *script) op(s machine.State) api.Op {
	o := api.Op{Key: d.key(s), Val: d.val(), N: d.capacity(s)}
	if machine.Capacity(s) > d.most && d.r.IntN(8) == 0 { // so that there is soon no room again
		o.Kind, o.N = api.Resize, 1+d.r.IntN(d.most)
		return o
	}
	switch n := d.r.IntN(1000); {
	case n < d.resizes:
		o.Kind = api.Resize
	case n < d.resizes+10:
		o.Kind = api.Len
	case n < d.resizes+20:
		o.Kind = []int{0, -1, 6, 7, math.MinInt, math.MaxInt, 256 + 1, 1<<32 | 2}[d.r.IntN(8)]
	case n < d.resizes+80:
		o.Kind = api.Delete
	case d.r.IntN(10) < d.gets:
		o.Kind = api.Get
	default:
		o.Kind = api.Put
	}
	return o
}

// note lets the keys of an operation come again soon.
func (d *script) note(o api.Op, out []api.Pair) {
	for _, p := range out[:min(len(out), 4)] {
		d.lately = append(d.lately, p.Key)
	}
	if o.Kind == api.Put || o.Kind == api.Delete {
		d.lately = append(d.lately, o.Key)
	}
	d.lately = d.lately[max(len(d.lately)-12, 0):]
}

// someKeys are so many, with key 0, the greatest one, and ones that differ in their upper halves alone.
func someKeys(count int) []uint64 {
	keys := []uint64{0, greatest, 1 << 32, 1, 1<<32 | 1, greatest >> 1, 1 << 63}
	for n := uint64(2); len(keys) < count; n++ {
		keys = append(keys, n, n<<32)
	}
	return keys[:count]
}

// met counts what scripts do of keys of which fate, and of which states.
type met map[string]int

// note notes an operation, with the state ahead of it, what was answered, and the fate of its key.
func (m met) note(o api.Op, s machine.State, a api.Answer, fate string) {
	c := machine.Capacity(s)
	if fate == "" {
		fate = "new"
	}
	switch o.Kind {
	case api.Get:
		m["Get "+fate]++
	case api.Put:
		m["Put "+fate]++
		if fate != "there" {
			m[fmt.Sprintf("Put of another one, full %t", len(s.Pairs) == c)]++
		}
		if o.Val == 0 {
			m["Put of 0, there "+fmt.Sprint(fate == "there")]++
		}
	case api.Delete:
		m["Delete "+fate]++
	case api.Resize:
		m.noteResize(o.N, c, len(a.Out))
	case api.Len:
		m["Len"]++
	default:
		m[fmt.Sprintf("another kind, above %t", o.Kind > api.Len)]++
	}
}

func (m met) noteResize(n, c, out int) {
	switch {
	case n < 0:
		m["Resize to below 0"]++
	case n == 0:
		m["Resize to 0"]++
	case n > api.MaxCapacity:
		m["Resize to above the greatest"]++
	case n > c:
		m["Resize to more"]++
	case n == c:
		m["Resize to the same"]++
	default:
		m[fmt.Sprintf("Resize to less, %d evicted", min(out, 2))]++
	}
	switch n {
	case 1:
		m["Resize to 1"]++
	case api.MaxCapacity:
		m["Resize to the greatest"]++
	}
}

// asked are all that scripts must meet, of a policy.
func asked(policy int) []string {
	all := []string{
		"Put of another one, full true", "Put of another one, full false", "Put of 0, there true", "Put of 0, there false",
		"Resize to below 0", "Resize to 0", "Resize to above the greatest", "Resize to more", "Resize to the same",
		"Resize to less, 0 evicted", "Resize to less, 1 evicted", "Resize to less, 2 evicted", "Resize to 1", "Resize to the greatest",
		"Len", "another kind, above true", "another kind, above false",
	}
	of := []string{"new", "there", "evicted", "deleted"}
	if policy != api.LRU {
		of = append(of, "remembered", "forgotten")
	}
	for _, fate := range of {
		all = append(all, "Get "+fate, "Put "+fate, "Delete "+fate)
	}
	return all
}

// enough asks that scripts met what they must.
func (m met) enough(t *testing.T, policy, least int) {
	t.Helper()
	for _, what := range asked(policy) {
		if m[what] < least {
			t.Errorf("%s: only %d times", what, m[what])
		}
	}
}

// play does a drawn script with both.
func play(t *testing.T, b *beside, d *script, ops int, m met) {
	t.Helper()
	f := fates{}
	for n := range ops {
		ahead := b.s
		o := d.op(ahead)
		fate := f[o.Key]
		b.called = d.r.IntN(2) == 0
		a := b.take(t, o)
		m.note(o, ahead, a, fate)
		f.follow(o, ahead, b.s, a.Out)
		d.note(o, a.Out)
		if n%200 == 199 {
			b.sweep(t)
		}
	}
	b.sweep(t)
}

// P19.1 to P19.3: long scripts of few keys are as machine's behind each operation, and meet each case.
func TestScripts(t *testing.T) {
	eachPolicy(t, func(t *testing.T, policy int) {
		m := met{}
		for seed := range uint64(80) {
			r := rand.New(rand.NewPCG(seed, uint64(190+policy)))
			keys := someKeys(4 + r.IntN(60))
			d := &script{r: r, keys: keys, most: len(keys), resizes: 30, gets: 2 + int(seed%6)}
			play(t, newBeside(t, policy, 1+r.IntN(len(keys))), d, 800, m)
		}
		m.enough(t, policy, 30)
	})
}

// P19.1 to P19.3: long scripts over far more keys than the capacity, with hardly ever a Resize.
func TestScriptsOfManyKeys(t *testing.T) {
	eachPolicy(t, func(t *testing.T, policy int) {
		for _, c := range []int{1, 2, 5, 20, 100, 210, 400} {
			r := rand.New(rand.NewPCG(uint64(c), uint64(195+policy)))
			d := &script{r: r, keys: someKeys(20*c + 20), most: c, resizes: 4, gets: 3 + c%3}
			play(t, newBeside(t, policy, c), d, 4000, met{})
		}
	})
}

// P19.2: two Engines, one by Do, one by the calls of operations, come the same way, and tell the same.
func TestCallsAreDo(t *testing.T) {
	eachPolicy(t, func(t *testing.T, policy int) {
		for seed := range uint64(20) {
			r := rand.New(rand.NewPCG(seed, uint64(200+policy)))
			keys := someKeys(5 + r.IntN(40))
			d := &script{r: r, keys: keys, most: len(keys), resizes: 30, gets: 4}
			c := 1 + r.IntN(len(keys))
			first, second := some(policy, c), some(policy, c)
			s, _ := machine.New(policy, c)
			for range 600 {
				o := d.op(s)
				s, _ = machine.Step(s, o)
				a := first.Do(o)
				got, err := call(second, o)
				what := fmt.Sprintf("%+v", o)
				if !equalAnswers(got, toldByCall(o, a)) || o.Kind == api.Resize && config.Code(err) != a.Err {
					t.Fatalf("%s: %+v, %v, not %+v", what, got, err, a)
				}
				if !slices.Equal(first.Keys(), second.Keys()) || first.Counts() != second.Counts() || first.Capacity() != second.Capacity() || first.Ghosts() != second.Ghosts() || first.Len() != second.Len() {
					t.Fatalf("%s: %v, not %v", what, second.Keys(), first.Keys())
				}
				d.note(o, a.Out)
			}
		}
	})
}

// fullest is machine's state of the greatest capacity, with the keys from 1 on, put in turn, of which each has the value that is twice as much.
func fullest(policy int) machine.State {
	const most = api.MaxCapacity
	s, _ := machine.New(policy, most)
	var back []uint64
	for k := uint64(most); k > 0; k-- {
		back = append(back, k)
	}
	for k := range uint64(most) {
		s.Pairs = append(s.Pairs, api.Pair{Key: k + 1, Val: 2 * (k + 1)})
	}
	switch policy {
	case api.LRU:
		s.Lru.L = back
	case api.TwoQ:
		s.Twoq.In = back
	case api.S3:
		for _, k := range back {
			s.Sthree.Small = append(s.Sthree.Small, sthree.Item{Key: k})
		}
	case api.ARC:
		s.Arc.T1 = back
	case api.LIRS:
		const cold = most / 100
		for i, k := range back {
			kind := lirs.Hot
			if i < cold {
				kind = lirs.Cold
				s.Lirs.Q = append(s.Lirs.Q, most-cold+1+uint64(i))
			}
			s.Lirs.S = append(s.Lirs.S, lirs.Item{Key: k, Kind: kind})
		}
	}
	return s
}

// P19.1, P19.3, P1, P6: with as many keys as there may be, each operation ends soon, and is as machine's.
func TestGreatestCapacity(t *testing.T) {
	t.Parallel() // one policy after the other, as they take much memory
	const most = api.MaxCapacity
	for _, policy := range five {
		b := newBeside(t, policy, most)
		for k := uint64(1); k <= most; k++ {
			if out := b.e.Put(k, 2*k); len(out) > 0 {
				t.Fatalf("policy %d, Put of %d: %v", policy, k, out)
			}
			b.alone.Admit(k)
		}
		b.s, b.keys = fullest(policy), most
		b.fits(t, "full")
		cold := uint64(most - most/100 + 1)
		for _, o := range opsOf(fmt.Sprintf("g1 g%d g0 p%d=m d7 p0=m p5000000=0 r1048577 r1048576 p2=3 r1048575 r500000 p5000002=4 r1048576 p5000003=8 r1 r1048576 p8=8", cold, cold+5)) {
			b.take(t, o)
		}
		b.sweep(t)
	}
}
