package earc

import (
	"maps"
	"math"
	"math/rand/v2"
	"slices"
	"testing"

	"hopper/api"
	"hopper/arc"
	"hopper/mix"
)

// slots are how many a store has that had so many keys at once.
type slots struct{ nodes, keys int }

func slotsOf(most int) slots {
	s := slots{8, 8}
	for n := 1; n <= most; n++ {
		if n == s.nodes { // slot 0 is no node's
			s.nodes *= 2
		}
		if 4*n > 3*s.keys {
			s.keys *= 2
		}
	}
	return s
}

// pair is a Cache beside arc's state, and what there was at most.
type pair struct {
	x        *Cache
	s        arc.State
	keys     int // how many were there, or remembered, at once
	capacity int // the greatest one so far
	want     slots
}

func newPair(c int) *pair {
	s := arc.New(c)
	return &pair{x: New(c), s: s, capacity: s.C, want: slotsOf(0)}
}

// reached notes how much there is.
func (b *pair) reached() {
	b.capacity = max(b.capacity, b.s.C)
	if n := many(b.s); n > b.keys {
		b.keys, b.want = n, slotsOf(n)
	}
}

// many is how many keys all lists of a state have.
func many(s arc.State) int { return len(s.T1) + len(s.T2) + len(s.B1) + len(s.B2) }

// take takes a step of both, holds what they tell against each other, and tells what was evicted.
func (b *pair) take(t *testing.T, p step, asked ...uint64) []uint64 {
	t.Helper()
	ahead := len(b.s.T1) + len(b.s.T2)
	out := p.do(b.x)
	next, want := p.follow(b.s)
	b.s = next
	if !slices.Equal(out, want) {
		t.Fatalf("%v: evicted %d, not %d", p, out, want)
	}
	if p.kind == resize && len(out) != max(ahead-next.C, 0) { // P6
		t.Fatalf("%v of %d keys: %d were evicted", p, ahead, len(out))
	}
	b.reached()
	b.fits(t, p.String(), append(asked, p.k))
	return out
}

// fits holds all that the Cache tells against what arc's functions tell of the state.
func (b *pair) fits(t *testing.T, what string, asked []uint64) {
	t.Helper()
	s := b.x.State()
	if !equal(s, b.s) {
		t.Fatalf("%s, State: %d, not %d", what, s, b.s)
	}
	keys := b.x.Keys()
	if want := arc.Keys(b.s); !slices.Equal(keys, want) {
		t.Fatalf("%s, Keys: %d, not %d", what, keys, want)
	}
	if g := b.x.Ghosts(); g != arc.Ghosts(b.s) {
		t.Fatalf("%s, Ghosts: %d", what, g)
	}
	if len(keys) > s.C || b.x.Ghosts() > s.C || len(s.T1)+len(s.B1) > s.C || many(s) > 2*s.C || s.P < 0 || s.P > s.C { // P4
		t.Fatalf("%s: too many keys: %d", what, s)
	}
	for _, k := range asked {
		if b.x.Has(k) != arc.Has(b.s, k) {
			t.Fatalf("%s, Has %d: %t, of %d", what, k, b.x.Has(k), b.s)
		}
	}
	b.roomsFit(t, what)
}

// roomsFit holds Rooms against the bound, and against what a store of as many keys has.
func (b *pair) roomsFit(t *testing.T, what string) {
	t.Helper()
	nodes, keys := b.x.Rooms()
	if most := 12*b.capacity + 32; nodes > most || keys > most {
		t.Fatalf("%s, Rooms: %d, %d, above %d", what, nodes, keys, most)
	}
	if got := (slots{nodes, keys}); got != b.want {
		t.Fatalf("%s, Rooms: %d, not %d, of %d keys at once", what, got, b.want, b.keys)
	}
}

// built is a pair with just a state.
func built(t *testing.T, s arc.State) *pair {
	t.Helper()
	c, steps := building(s)
	b := newPair(c)
	for _, p := range steps {
		b.take(t, p)
	}
	if !equal(b.s, s) {
		t.Fatalf("built %d, not %d", b.s, s)
	}
	return b
}

// again is the same pair once more, for other steps.
func (b *pair) again() *pair {
	c := *b
	c.x = cache(b.s)
	return &c
}

// triedCapacities are of all sorts.
func triedCapacities() []int {
	return []int{math.MinInt, -1, 0, 1, 2, 3, 4, 9, 1048576, 1048577, math.MaxInt}
}

// triedSteps are all calls that change a Cache, with some keys and those capacities.
func triedSteps(keys []uint64) []step {
	var all []step
	for _, k := range keys {
		all = append(all, toTouch(k), toAdmit(k), toDrop(k))
	}
	for _, c := range triedCapacities() {
		all = append(all, toResize(c))
	}
	return all
}

// shaped is the state of a capacity and a target with so many keys in its lists. Which ones they are goes on with n, so that 0 and the greatest key come to stand everywhere.
func shaped(n, c, p int, counts [4]int) arc.State {
	names := list(0, 1, 1<<32, greatest, 2, 1<<32|1, 3, 4, 5, 6, 7, 8)
	s := arc.State{C: c, P: p}
	for i, l := range []*[]uint64{&s.T1, &s.T2, &s.B1, &s.B2} {
		for range counts[i] {
			*l = append(*l, names[n%len(names)])
			n++
		}
	}
	return s
}

// triedStates are all that a Cache of a capacity can come to, up to the keys' names.
func triedStates(c int) []arc.State {
	var all []arc.State
	for n1 := range c + 1 {
		for n2 := range c + 1 - n1 {
			for m1 := range c + 1 - n1 {
				for m2 := range c + 1 - m1 {
					for p := range c + 1 {
						all = append(all, shaped(len(all), c, p, [4]int{n1, n2, m1, m2}))
					}
				}
			}
		}
	}
	return all
}

// known are all keys of a state's lists, and two of none of them.
func known(s arc.State) []uint64 {
	return append(slices.Concat(listsOf(s)...), 77, 1<<63)
}

// P17.1: from all states of the least capacities, each two calls are as arc's.
func TestAllStates(t *testing.T) {
	for c := 1; c <= 2; c++ {
		for _, s := range triedStates(c) {
			first := built(t, s)
			asked := known(s)
			steps := triedSteps(asked)
			for _, p := range steps {
				for _, q := range steps {
					b := first.again()
					b.take(t, p)
					b.take(t, q, asked...)
				}
			}
		}
	}
}

// P17.1: from all states of greater capacities, each call is as arc's.
func TestAllStatesOfMoreKeys(t *testing.T) {
	for c := 3; c <= 4; c++ {
		for _, s := range triedStates(c) {
			first := built(t, s)
			asked := known(s)
			for _, p := range triedSteps(asked) {
				first.again().take(t, p, asked...)
			}
		}
	}
}

// script draws steps. Keys are any of some, ones that are in a list, and ones that came or went lately; none of strangers is ever admitted.
type script struct {
	r         *rand.Rand
	keys      []uint64
	lately    []uint64
	strangers []uint64
	most      int // of its capacities
	resizes   int // of 1000 steps
	touches   int // of 10 of the others
}

func (d *script) oneOf(l []uint64) uint64 { return l[d.r.IntN(len(l))] }

// known leans on what is remembered, so that the target goes up and down.
func (d *script) known(s arc.State) uint64 {
	lists := [][]uint64{d.keys, d.keys, d.keys, d.lately, s.T1, s.T2, s.B1, s.B2}
	if l := lists[d.r.IntN(len(lists))]; len(l) > 0 {
		return d.oneOf(l)
	}
	return d.oneOf(d.keys)
}

func (d *script) key(s arc.State) uint64 {
	if d.r.IntN(8) == 0 {
		return d.oneOf(d.strangers)
	}
	return d.known(s)
}

// capacity is any one, or one near a state's.
func (d *script) capacity(s arc.State) int {
	if d.r.IntN(2) == 0 {
		return d.r.IntN(d.most+3) - 1
	}
	return min(s.C+2-d.r.IntN(5), d.most+1)
}

func (d *script) step(s arc.State) step {
	if d.r.IntN(1000) < d.resizes {
		return toResize(d.capacity(s))
	}
	switch n := d.r.IntN(10); {
	case n < d.touches:
		return toTouch(d.key(s))
	case n < 9 || d.r.IntN(3) > 0: // so that there is often no room
		return toAdmit(d.known(s))
	}
	return toDrop(d.key(s))
}

// note lets the keys of a step come again soon.
func (d *script) note(p step, out []uint64) {
	d.lately = append(d.lately, out[:min(len(out), 4)]...)
	if p.kind == admit || p.kind == drop {
		d.lately = append(d.lately, p.k)
	}
	d.lately = d.lately[max(len(d.lately)-12, 0):]
}

// fewKeys are so many that all are asked for at each step.
func fewKeys(count int) []uint64 {
	keys := list(0, greatest, 1<<32)
	for len(keys) < count {
		keys = append(keys, uint64(len(keys)))
	}
	return keys
}

// manyKeys are far more than any capacity of a script: key 0, the greatest one, small ones, and ones that crowd round few places of the store's table.
func manyKeys(r *rand.Rand, count int) []uint64 {
	keys := list(0, greatest)
	for n := len(keys); n < count; n++ {
		if n%2 == 0 {
			keys = append(keys, uint64(n))
		} else {
			keys = append(keys, mix.Unmix(uint64(n)<<20|uint64(r.IntN(3))))
		}
	}
	return keys
}

// P17.1, P17.3: long scripts of few keys are as arc's behind each act, of all of them, wherever they are, or were.
func TestScripts(t *testing.T) {
	strangers := list(77, 1<<63, greatest-1)
	for seed := range uint64(80) {
		r := rand.New(rand.NewPCG(seed, 17))
		keys := fewKeys(4 + r.IntN(40))
		d := &script{r: r, keys: keys, strangers: strangers, most: len(keys), resizes: 30, touches: 2 + int(seed%6)}
		b := newPair(r.IntN(len(keys)+2) - 1)
		asked := append(keys, strangers...)
		for range 600 {
			p := d.step(b.s)
			d.note(p, b.take(t, p, asked...))
		}
	}
}

// places are the lists that the keys of a state are in.
func places(s arc.State) map[uint64]string {
	all := map[uint64]string{}
	for i, l := range listsOf(s) {
		for _, k := range l {
			all[k] = []string{"in T1", "in T2", "in B1", "in B2"}[i]
		}
	}
	return all
}

// fates are where keys are, or what became of them: of one that never was there is none.
type fates map[uint64]string

// follow notes what a step made of the state ahead of it.
func (f fates) follow(p step, ahead, s arc.State) {
	gone := "forgotten, once "
	if p.kind == drop {
		gone = "dropped, once "
	}
	now := places(s)
	for k, at := range places(ahead) {
		if now[k] == "" {
			f[k] = gone + at
		}
	}
	maps.Copy(f, now)
}

// allFates are all that a key's fate may be.
func allFates() []string {
	return []string{
		"", "in T1", "in T2", "in B1", "in B2",
		"forgotten, once in T1", "forgotten, once in T2", "forgotten, once in B1", "forgotten, once in B2",
		"dropped, once in T1", "dropped, once in T2", "dropped, once in B1", "dropped, once in B2",
	}
}

// met counts what scripts do of keys of which fate, and of which states.
type met map[string]int

// note notes a step, with the states ahead of it and behind it, and the fate of its key.
func (m met) note(p step, ahead, s arc.State, fate string) {
	m[[]string{touch: "Touch ", admit: "Admit ", drop: "Drop ", resize: "Resize "}[p.kind]+fate]++
	switch {
	case p.kind == resize:
		m.resized(ahead, s)
	case p.kind == admit && (fate == "in B1" || fate == "in B2"):
		m.target(ahead, s, fate)
	case p.kind == admit && fate != "in T1" && fate != "in T2":
		m.room(ahead)
	}
}

// than tells how a number is to another one.
func than(n, other int) string {
	switch {
	case n < other:
		return "less than"
	case n == other:
		return "just"
	}
	return "more than"
}

// target notes an Admit of a key that is remembered.
func (m met) target(ahead, s arc.State, fate string) {
	out := fate + ": "
	m[out+"B1 has "+than(len(ahead.B1), len(ahead.B2))+" B2"]++
	by := max(s.P-ahead.P, ahead.P-s.P)
	m[out+"P goes by "+than(by, 1)+" 1"]++
	if by > 0 && s.P == s.C {
		m[out+"P comes to C"]++
	}
	if by > 0 && s.P == 0 {
		m[out+"P comes to 0"]++
	}
	if by == 0 && s.P == s.C {
		m[out+"P stays C"]++
	}
	if by == 0 && s.P == 0 {
		m[out+"P stays 0"]++
	}
	m.replaced(ahead, s.P, out)
}

// replaced notes out of which state a key is replaced, by which target.
func (m met) replaced(ahead arc.State, p int, what string) {
	switch t1, t2 := len(ahead.T1), len(ahead.T2); {
	case t1+t2 < ahead.C:
		m[what+"room"]++
	case t1 == 0:
		m[what+"T1 has none"]++
	case t2 == 0:
		m[what+"T2 has none"]++
	default:
		m[what+"T1 has "+than(t1, p)+" P"]++
	}
}

// room notes an Admit of a key that is nowhere.
func (m met) room(ahead arc.State) {
	c, all := ahead.C, many(ahead)
	switch t1 := len(ahead.T1); {
	case t1 == c:
		m["T1 has C"]++
		return
	case t1+len(ahead.B1) == c:
		m.replaced(ahead, ahead.P, "T1 and B1 have C: ")
	case all >= c:
		m["T1 and B1 have less, all have "+than(all, c)+" C"]++
		m["T1 and B1 have less, all have "+than(all, 2*c)+" 2C"]++
		m.replaced(ahead, ahead.P, "T1 and B1 have less: ")
	default:
		m["all have less than C"]++
	}
}

// resized notes a Resize.
func (m met) resized(ahead, s arc.State) {
	if s.P < ahead.P {
		m["Resize: P falls"]++
	}
	for i, l := range listsOf(ahead) {
		if now := listsOf(s)[i]; len(l) > 0 && !slices.Contains(now, l[len(l)-1]) {
			m["Resize: "+[]string{"T1", "T2", "B1", "B2"}[i]+" loses keys"]++
		}
	}
}

// all asks for all that there is to be met.
func (m met) all(t *testing.T) {
	t.Helper()
	want := []string{
		"T1 has C", "all have less than C",
		"T1 and B1 have less, all have just C", "T1 and B1 have less, all have more than C",
		"T1 and B1 have less, all have less than 2C", "T1 and B1 have less, all have just 2C",
		"in B1: P comes to C", "in B1: P stays C", "in B2: P comes to 0", "in B2: P stays 0",
		"Resize ", "Resize: P falls", "Resize: T1 loses keys", "Resize: T2 loses keys", "Resize: B1 loses keys", "Resize: B2 loses keys",
		"in B2: T2 has none",
	}
	for _, out := range []string{"in B1: ", "in B2: "} {
		want = append(want, out+"B1 has less than B2", out+"B1 has just B2", out+"B1 has more than B2", out+"P goes by just 1", out+"P goes by more than 1")
	}
	for _, what := range []string{"in B1: ", "in B2: ", "T1 and B1 have C: ", "T1 and B1 have less: "} {
		want = append(want, what+"T1 has none", what+"T1 has less than P", what+"T1 has just P", what+"T1 has more than P")
	}
	for _, what := range []string{"in B1: ", "in B2: ", "T1 and B1 have C: "} {
		want = append(want, what+"room")
	}
	for _, fate := range allFates() {
		want = append(want, "Has "+fate, "Touch "+fate, "Admit "+fate, "Drop "+fate)
	}
	for _, what := range want {
		if m[what] == 0 {
			t.Errorf("never met: %q", what)
		}
	}
}

// play has a pair play a script.
func (d *script) play(t *testing.T, b *pair, count int, m met) {
	t.Helper()
	f := fates{}
	for range count {
		p, ahead := d.step(b.s), b.s
		some := append(list(d.key(b.s), d.key(b.s)), d.lately...)
		out := b.take(t, p, some...)
		m.note(p, ahead, b.s, f[p.k])
		f.follow(p, ahead, b.s)
		for _, k := range some {
			m["Has "+f[k]]++
		}
		d.note(p, out)
	}
}

// P17.1, P17.3, P17.4: long scripts over far more keys than the capacity, also behind a Resize to less and to more again.
func TestScriptsOfManyKeys(t *testing.T) {
	m := met{}
	for seed, most := range []int{1, 2, 3, 4, 7, 9, 13, 21, 40, 150} {
		for _, touches := range []int{1, 4, 8} {
			for _, resizes := range []int{2, 30} {
				r := rand.New(rand.NewPCG(uint64(seed), 171))
				d := &script{r: r, keys: manyKeys(r, 20*most+40), strangers: list(1<<40, 1<<40+1), most: most, resizes: resizes, touches: touches}
				d.play(t, newPair(most), 2000, m)
			}
		}
	}
	m.all(t)
}

// full is a Cache of a capacity with as many keys as there may be, twice as many as that, beside the state that it should have: keys from 0 on came, and were used again, and others came behind them, of which only the last one is there.
func full(t *testing.T, capacity int) *pair {
	t.Helper()
	c := uint64(capacity)
	x := New(capacity)
	for k := range c {
		x.Admit(k)
		x.Touch(k)
	}
	for k := range c {
		out := list(c + k - 1)
		if k == 0 {
			out = list(0)
		}
		same(t, "Admit, evicted", x.Admit(c+k), out)
	}
	s := arc.State{C: capacity, T1: list(2*c - 1), B2: list(0)}
	if c > 1 {
		s.T2, s.B1 = back(c-1, 1), back(2*c-2, c)
	}
	b := &pair{x: x, s: s, capacity: capacity}
	b.reached()
	return b
}

// As many keys as there may be, of less capacities, where arc's lists go all the way.
func TestFull(t *testing.T) {
	for c := 1; c <= 40; c++ {
		b := full(t, c)
		b.fits(t, "full", run(0, uint64(2*c)))
		s := arc.New(c)
		for k := range uint64(c) {
			s, _ = arc.Admit(s, k)
			s = arc.Touch(s, k)
		}
		for k := range uint64(c) {
			s, _ = arc.Admit(s, uint64(c)+k)
		}
		if !equal(s, b.s) || many(s) != 2*c {
			t.Errorf("full: %d, not %d", s, b.s)
		}
	}
}

// raise has a full Cache's last keys of B1 come again, so that the target is as many.
func (b *pair) raise(t *testing.T, n uint64) {
	t.Helper()
	c := uint64(b.s.C)
	for k := range n {
		same(t, "Admit out of B1, evicted", b.x.Admit(c+k), list(k+1))
	}
	b.s.P = int(n)
	b.s.T2 = back(c+n-1, n+1)
	b.s.B1 = back(2*c-2, c+n)
	b.s.B2 = back(n, 0)
}

// widen has as many others come, so that T1 has one more than the target, and no more than it may have beside B1.
func (b *pair) widen(t *testing.T, n uint64) {
	t.Helper()
	c := uint64(b.s.C)
	for k := range n {
		same(t, "Admit, evicted", b.x.Admit(2*c+k), list(n+1+k))
	}
	b.s.T1 = back(2*c+n-1, 2*c-1)
	b.s.T2 = back(c+n-1, 2*n+1)
	b.s.B2 = back(2*n, n)
}

// P17.1, P4, P6: with as many keys as there may be; what many steps lead to is written out, as arc's lists of that length are too slow to go all the way with, and single steps are held against arc's.
func TestGreatestCapacity(t *testing.T) {
	const c = api.MaxCapacity
	const n = c / 4
	b := full(t, c)
	b.fits(t, "full", list(0, 1, c-1, c, 2*c-2, 2*c-1, 2*c))
	b.raise(t, n)
	b.fits(t, "P rises", list(0, n, n+1, c, c+n-1, c+n, 2*c-1))
	b.widen(t, n)
	b.fits(t, "T1 has more than P", list(0, n-1, n, 2*n, 2*n+1, 2*c+n-1, 2*c+n))
	const more = 1 << 40
	for _, p := range []step{
		toTouch(b.s.T2[9]), toTouch(b.s.T1[9]), toDrop(b.s.B1[7]), toDrop(b.s.B2[7]), toDrop(b.s.T2[7]),
		toAdmit(more), toAdmit(b.s.B1[5]), toAdmit(b.s.B2[5]), toAdmit(more + 1), toAdmit(b.s.B1[len(b.s.B1)-1]), toAdmit(b.s.B2[len(b.s.B2)-2]),
		toResize(math.MaxInt), toResize(c / 4 * 3), toAdmit(more + 2), toResize(c), toAdmit(more + 3),
		toResize(math.MinInt), toAdmit(more + 4), toResize(math.MaxInt),
	} {
		b.take(t, p, 0, more, more+1, more+2, more+3, more+4, c, 2*c)
	}
}
