package elirs

import (
	"maps"
	"math"
	"math/rand/v2"
	"slices"
	"testing"

	"hopper/api"
	"hopper/lirs"
	"hopper/mix"
)

// slots are how many a store has.
type slots struct{ nodes, keys int }

// slotsOf are those of one that had so many keys at once.
func slotsOf(most int) slots {
	s := slots{8, 8}
	for n := 1; n <= most; n++ {
		if n == s.nodes { // slot 0 is no node's
			s.nodes *= 2
		}
		if 4*n > 3*s.keys {
			s.keys *= 2
		}
	}
	return s
}

// pair is a Cache beside lirs's state, and what there was at most.
type pair struct {
	x            *Cache
	s            lirs.State
	items, known int // how many items S had at once, and how many keys were there, or remembered
	capacity     int // the greatest one so far
	want         slots
}

func newPair(c int) *pair { return pairOf(lirs.New(c)) }

// pairOf is a pair with just a state.
func pairOf(s lirs.State) *pair {
	b := &pair{x: laid(s), s: s, items: -1}
	b.reached()
	return b
}

// laid is a Cache of a state whose keys were laid into its stores, where so many are needed that to build each one by calls takes too long. TestLaid holds it against one of calls.
func laid(s lirs.State) *Cache {
	x := New(s.C)
	for _, item := range slices.Backward(s.S) {
		x.stack.PushFront(0, item.Key)
		if item.Kind != lirs.Cold {
			x.keys.PushFront(item.Kind, item.Key)
		}
	}
	for _, k := range s.Q {
		x.keys.PushFront(lirs.Cold, k)
	}
	return x
}

// sameStores holds all that two Caches keep against each other, but for the slots.
func sameStores(t *testing.T, what string, x, y *Cache) {
	t.Helper()
	if x.capacity != y.capacity {
		t.Errorf("%s: capacity %d, not %d", what, x.capacity, y.capacity)
	}
	same(t, what+", stack", x.stack.Keys(0), y.stack.Keys(0))
	for kind := range 3 {
		same(t, what+", keys of a kind", x.keys.Keys(kind), y.keys.Keys(kind))
	}
}

// What is laid is what calls lead to, so that tests begin with states that may be; and so is what they lead to.
func TestLaid(t *testing.T) {
	for c := 1; c <= 3; c++ {
		for _, s := range triedStates(c) {
			x := cache(s)
			has(t, "built", x, s)
			sameStores(t, "laid", laid(s), x)
		}
	}
}

// reached notes how much there is.
func (b *pair) reached() {
	b.capacity = max(b.capacity, b.s.C)
	items, known := len(b.s.S), len(b.s.Q)+len(b.s.S)-len(ofKind(b.s, lirs.Cold))
	if items <= b.items && known <= b.known {
		return
	}
	b.items, b.known = max(b.items, items), max(b.known, known)
	first, second := slotsOf(b.items), slotsOf(b.known)
	b.want = slots{first.nodes + second.nodes, first.keys + second.keys}
}

// take takes a step of both, holds what they tell against each other, and tells what was evicted.
func (b *pair) take(t *testing.T, p step, asked ...uint64) []uint64 {
	t.Helper()
	out := b.pass(t, p)
	b.fits(t, p.String(), append(asked, p.k))
	return out
}

// pass takes a step of both on the way to others: what was evicted alone is held against each other.
func (b *pair) pass(t *testing.T, p step) []uint64 {
	t.Helper()
	ahead := len(lirs.Keys(b.s))
	out := p.do(b.x)
	next, want := p.follow(b.s)
	b.s = next
	if !slices.Equal(out, want) {
		t.Fatalf("%v: evicted %d, not %d", p, out, want)
	}
	if p.kind == resize && len(out) != max(ahead-next.C, 0) { // P6
		t.Fatalf("%v of %d keys: %d were evicted", p, ahead, len(out))
	}
	b.reached()
	return out
}

// fits holds all that the Cache tells against what lirs's functions tell of the state.
func (b *pair) fits(t *testing.T, what string, asked []uint64) {
	t.Helper()
	s := b.x.State()
	if !equal(s, b.s) {
		t.Fatalf("%s, State: %d, not %d", what, s, b.s)
	}
	keys := b.x.Keys()
	if want := lirs.Keys(b.s); !slices.Equal(keys, want) {
		t.Fatalf("%s, Keys: %d, not %d", what, keys, want)
	}
	if g := b.x.Ghosts(); g != lirs.Ghosts(b.s) {
		t.Fatalf("%s, Ghosts: %d", what, g)
	}
	if len(keys) > s.C || b.x.Ghosts() > s.C || len(keys)-len(s.Q) > roomOf(s.C) { // P4
		t.Fatalf("%s: too many keys: %d", what, s)
	}
	for _, k := range asked {
		if b.x.Has(k) != lirs.Has(b.s, k) {
			t.Fatalf("%s, Has %d: %t, of %d", what, k, b.x.Has(k), b.s)
		}
	}
	b.roomsFit(t, what)
}

// roomOf is how many hot ones there may be.
func roomOf(c int) int {
	if c < 100 {
		return c - 1
	}
	return c - c/100
}

// roomsFit holds Rooms against the bound, and against what stores of as many keys have.
func (b *pair) roomsFit(t *testing.T, what string) {
	t.Helper()
	nodes, keys := b.x.Rooms()
	if most := 12*b.capacity + 32; nodes > most || keys > most {
		t.Fatalf("%s, Rooms: %d, %d, above %d", what, nodes, keys, most)
	}
	if got := (slots{nodes, keys}); got != b.want {
		t.Fatalf("%s, Rooms: %d, not %d, of %d items and %d keys at once", what, got, b.want, b.items, b.known)
	}
}

// triedCapacities are of all sorts.
func triedCapacities() []int {
	return []int{math.MinInt, -1, 0, 1, 2, 3, 4, 5, 9, 100, 200, 1048576, 1048577, math.MaxInt}
}

// triedSteps are all calls that change a Cache, with some keys and those capacities.
func triedSteps(keys []uint64) []step {
	var all []step
	for _, k := range keys {
		all = append(all, toTouch(k), toAdmit(k), toDrop(k))
	}
	for _, c := range triedCapacities() {
		all = append(all, toResize(c))
	}
	return all
}

// woven are all lists that have the keys of two, each in its turn.
func woven(a, b []uint64) [][]uint64 {
	if len(a) == 0 || len(b) == 0 {
		return [][]uint64{slices.Concat(a, b)}
	}
	var all [][]uint64
	for _, l := range woven(a[1:], b) {
		all = append(all, append(list(a[0]), l...))
	}
	for _, l := range woven(a, b[1:]) {
		all = append(all, append(list(b[0]), l...))
	}
	return all
}

// triedStates are all that a Cache of a capacity can come to, up to the keys' names.
func triedStates(c int) []lirs.State {
	all := []lirs.State{{C: c}, {C: c, Q: list(0)}, {C: c, Q: list(greatest)}}
	for hot := range c {
		for cold := range c + 1 - hot {
			for single := range c + 1 - hot - cold {
				for gone := range c + 1 {
					if hot > 0 || cold+gone == 0 && single > 1 {
						all = append(all, shaped(len(all), c, hot, cold, single, gone)...)
					}
				}
			}
		}
	}
	return all
}

// shaped are all states with so many Hot items, so many Cold ones, so many keys in Q alone, and so many items that are Gone. What is Gone was cold ahead of all that is Cold; what is Cold is so in the same turn in S, from its end on, as in Q. Which keys they are goes on with n, so that 0 and the greatest key come to stand everywhere.
func shaped(n, c, hot, cold, single, gone int) []lirs.State {
	names := list(0, 1, 1<<32, greatest, 2, 1<<32|1, 3, 4, 5, 6, 7, 8, 9)
	turned := n % len(names)
	l := append(slices.Clone(names[turned:]), names[:turned]...)
	hots, colds, singles, ghosts := l[:hot], l[hot:hot+cold], l[hot+cold:hot+cold+single], l[hot+cold+single:hot+cold+single+gone]
	kinds := map[uint64]int{}
	for _, k := range hots {
		kinds[k] = lirs.Hot
	}
	for _, k := range colds {
		kinds[k] = lirs.Cold
	}
	var all []lirs.State
	for _, stack := range woven(hots, slices.Concat(colds, ghosts)) {
		if len(stack) > 0 && kinds[stack[len(stack)-1]] != lirs.Hot {
			continue
		}
		for _, q := range woven(backward(colds), singles) {
			s := lirs.State{C: c, Q: q}
			for _, k := range stack {
				s.S = append(s.S, lirs.Item{Key: k, Kind: kinds[k]})
			}
			all = append(all, s)
		}
	}
	return all
}

// known are all keys of a state's lists, and two of none of them.
func known(s lirs.State) []uint64 { return append(allKeys(s), 77, 1<<63) }

// P18.1: from all states of the least capacities, each two calls are as lirs's.
func TestAllStates(t *testing.T) {
	for c := 1; c <= 3; c++ {
		for _, s := range triedStates(c) {
			asked := known(s)
			steps := triedSteps(asked)
			for _, p := range steps {
				for _, q := range steps {
					b := pairOf(s)
					b.take(t, p)
					b.take(t, q, asked...)
				}
			}
		}
	}
}

// P18.1: from all states of greater capacities, each call is as lirs's.
func TestAllStatesOfMoreKeys(t *testing.T) {
	for c := 3; c <= 5; c++ {
		for _, s := range triedStates(c) {
			asked := known(s)
			for _, p := range triedSteps(asked) {
				pairOf(s).take(t, p, asked...)
			}
		}
	}
}

// script draws steps. Keys are any of some, ones that are in a list, and ones that came or went lately; none of strangers is ever admitted.
type script struct {
	r         *rand.Rand
	keys      []uint64
	lately    []uint64
	strangers []uint64
	most      int // of its capacities
	resizes   int // of 1000 steps
	touches   int // of 10 of the others
}

func (d *script) oneOf(l []uint64) uint64 { return l[d.r.IntN(len(l))] }

// known leans on what is cold, or remembered, and on both ends of S.
func (d *script) known(s lirs.State) uint64 {
	var lists [][]uint64
	switch d.r.IntN(4) {
	case 0:
		lists = [][]uint64{ofKind(s, lirs.Hot), ofKind(s, lirs.Cold), alone(s), ofKind(s, lirs.Gone)}
	case 1:
		lists = [][]uint64{s.Q, s.Q[:min(len(s.Q), 2)], inS(s.S[:min(len(s.S), 4)]), inS(s.S[max(len(s.S)-4, 0):])}
	default:
		lists = [][]uint64{d.keys, d.keys, d.lately, inS(s.S)}
	}
	if l := lists[d.r.IntN(len(lists))]; len(l) > 0 {
		return d.oneOf(l)
	}
	return d.oneOf(d.keys)
}

// inS are the keys of items.
func inS(items []lirs.Item) []uint64 {
	var l []uint64
	for _, item := range items {
		l = append(l, item.Key)
	}
	return l
}

func (d *script) key(s lirs.State) uint64 {
	if d.r.IntN(8) == 0 {
		return d.oneOf(d.strangers)
	}
	return d.known(s)
}

// capacity is any one, or one near a state's, or near how many keys are there.
func (d *script) capacity(s lirs.State) int {
	switch d.r.IntN(4) {
	case 0:
		return d.r.IntN(d.most+3) - 1
	case 1:
		return len(lirs.Keys(s)) - d.r.IntN(3)
	}
	return min(s.C+2-d.r.IntN(5), d.most+1)
}

func (d *script) step(s lirs.State) step {
	if d.r.IntN(1000) < d.resizes {
		return toResize(d.capacity(s))
	}
	switch n := d.r.IntN(10); {
	case n < d.touches:
		return toTouch(d.key(s))
	case n < 9 || d.r.IntN(3) > 0: // so that there is often no room
		return toAdmit(d.known(s))
	}
	return toDrop(d.key(s))
}

// note lets the keys of a step come again soon.
func (d *script) note(p step, out []uint64) {
	d.lately = append(d.lately, out[:min(len(out), 4)]...)
	if p.kind == admit || p.kind == drop {
		d.lately = append(d.lately, p.k)
	}
	d.lately = d.lately[max(len(d.lately)-12, 0):]
}

// fewKeys are so many that all are asked for at each step.
func fewKeys(count int) []uint64 {
	keys := list(0, greatest, 1<<32)
	for len(keys) < count {
		keys = append(keys, uint64(len(keys)))
	}
	return keys
}

// manyKeys are far more than any capacity of a script: key 0, the greatest one, small ones, and ones that crowd round few places of the stores' tables.
func manyKeys(r *rand.Rand, count int) []uint64 {
	keys := list(0, greatest)
	for n := len(keys); n < count; n++ {
		if n%2 == 0 {
			keys = append(keys, uint64(n))
		} else {
			keys = append(keys, mix.Unmix(uint64(n)<<20|uint64(r.IntN(3))))
		}
	}
	return keys
}

// P18.1, P18.3: long scripts of few keys are as lirs's behind each act, of all of them, wherever they are, or were.
func TestScripts(t *testing.T) {
	strangers := list(77, 1<<63, greatest-1)
	for seed := range uint64(200) {
		r := rand.New(rand.NewPCG(seed, 18))
		keys := fewKeys(4 + r.IntN(40))
		d := &script{r: r, keys: keys, strangers: strangers, most: len(keys), resizes: 30, touches: 2 + int(seed%6)}
		b := newPair(r.IntN(len(keys)+2) - 1)
		asked := append(keys, strangers...)
		for range 600 {
			p := d.step(b.s)
			d.note(p, b.take(t, p, asked...))
		}
	}
}

// P18.1, P18.3: scripts of few keys that begin where many are in Q, as only those of great capacities have else.
func TestScriptsOfManyInQ(t *testing.T) {
	names := append(fewKeys(12), 77)
	for seed := range uint64(400) {
		r := rand.New(rand.NewPCG(seed, 180))
		c := 4 + r.IntN(9)
		hot := r.IntN(c / 2)
		cold, single := 0, 0
		if hot > 0 {
			cold = 1 + r.IntN((c-hot)/2)
		}
		single = r.IntN(c - hot - cold + 1)
		s := drawn(r, c, names[:hot], names[hot:hot+cold], names[hot+cold:hot+cold+single])
		d := &script{r: r, keys: names, strangers: list(78), most: 14, resizes: 40, touches: 2 + int(seed%7)}
		b := pairOf(s)
		for range 60 {
			p := d.step(b.s)
			d.note(p, b.take(t, p, names...))
		}
	}
}

// drawn is a state with some keys Hot, Cold, and in Q alone, mixed by chance.
func drawn(r *rand.Rand, c int, hot, cold, single []uint64) lirs.State {
	s := lirs.State{C: c}
	for _, item := range slices.Concat(of(lirs.Hot, hot), of(lirs.Cold, cold)) {
		s.S = slices.Insert(s.S, r.IntN(max(len(s.S), 1)), item)
	}
	for _, item := range slices.Backward(s.S) {
		if item.Kind == lirs.Cold {
			s.Q = append(s.Q, item.Key)
		}
	}
	for _, k := range single {
		s.Q = slices.Insert(s.Q, r.IntN(len(s.Q)+1), k)
	}
	return s
}

// places are where the keys of a state are.
func places(s lirs.State) map[uint64]string {
	all := map[uint64]string{}
	for _, k := range s.Q {
		all[k] = "alone"
	}
	for _, item := range s.S {
		all[item.Key] = []string{lirs.Gone: "Gone", lirs.Cold: "Cold", lirs.Hot: "Hot"}[item.Kind]
	}
	return all
}

// fates are where keys are, or what became of them: of one that never was there is none.
type fates map[uint64]string

// follow notes what a step made of the state ahead of it.
func (f fates) follow(p step, ahead, s lirs.State) {
	gone := "away, once "
	if p.kind == drop {
		gone = "dropped, once "
	}
	now := places(s)
	for k, at := range places(ahead) {
		if now[k] == "" {
			f[k] = gone + at
			if p.kind == drop && k != p.k {
				f[k] = "away, once " + at
			}
		}
	}
	maps.Copy(f, now)
}

// allFates are all that a key's fate may be.
func allFates() []string {
	return []string{
		"", "Hot", "Cold", "alone", "Gone",
		"away, once Hot", "away, once Cold", "away, once alone", "away, once Gone",
		"dropped, once Hot", "dropped, once Cold", "dropped, once alone", "dropped, once Gone",
	}
}

// than tells how a number is to another one.
func than(n, other int) string {
	switch {
	case n < other:
		return "less than "
	case n == other:
		return "just "
	}
	return "more than "
}

// met counts what scripts do of keys of which fate, and of which states.
type met map[string]int

// note notes a step, with the states ahead of it and behind it, what was evicted, and the fate of its key.
func (m met) note(p step, ahead, s lirs.State, out []uint64, fate string) {
	what := []string{touch: "Touch ", admit: "Admit ", drop: "Drop ", resize: "Resize "}[p.kind] + fate
	m[what]++
	was, now := places(ahead), places(s)
	if p.kind == admit && fate != "Hot" && fate != "Cold" && fate != "alone" && fate != "Gone" {
		what = "Admit of another one"
		m[what+": Hot has "+than(len(ofKind(ahead, lirs.Hot)), roomOf(s.C))+"the room, there are "+than(len(lirs.Keys(ahead)), s.C)+"C"]++
	}
	if at := slices.Index(inS(ahead.S), p.k); p.kind == touch && fate == "Hot" {
		m["Touch Hot: ahead of it are "+than(at, 1)+"1, "+than(at, len(ahead.S)-1)+"all but itself"]++
	}
	cooled, lost := 0, 0
	for _, item := range ahead.S {
		switch at := now[item.Key]; {
		case item.Key == p.k && p.kind != resize:
		case item.Kind == lirs.Hot && at != "Hot":
			cooled++
		case at == "" || at == "alone":
			lost++
		}
	}
	m[what+": cools "+than(cooled, 1)+"1"]++
	m[what+": S loses "+than(lost, 1)+"1"]++
	for _, k := range out {
		m[what+": evicts one that was "+was[k]]++
	}
	if p.kind == resize {
		m["Resize: evicts "+than(len(out), 1)+"1"]++
		m["Resize: there are "+than(len(ofKind(ahead, lirs.Gone)), s.C)+"C Gone"]++
	}
}

// all asks for all that there is to be met.
func (m met) all(t *testing.T) {
	t.Helper()
	want := []string{
		"Touch Hot: ahead of it are less than 1, less than all but itself", "Touch Hot: ahead of it are just 1, less than all but itself",
		"Touch Hot: ahead of it are more than 1, less than all but itself", "Touch Hot: ahead of it are more than 1, just all but itself",
		"Touch Cold: cools less than 1", "Touch Cold: cools just 1",
		"Admit Gone: cools less than 1", "Admit Gone: cools just 1",
		"Admit Gone: evicts one that was Cold", "Admit Gone: evicts one that was alone",
		"Admit of another one: Hot has less than the room, there are less than C", "Admit of another one: Hot has less than the room, there are just C",
		"Admit of another one: Hot has just the room, there are less than C", "Admit of another one: Hot has just the room, there are just C",
		"Admit of another one: evicts one that was Cold", "Admit of another one: evicts one that was alone",
		"Admit of another one: S loses less than 1", "Admit of another one: S loses just 1",
		"Resize : evicts one that was Hot", "Resize : evicts one that was Cold", "Resize : evicts one that was alone",
	}
	for _, what := range []string{"Touch Hot: S loses ", "Touch Cold: S loses ", "Drop Hot: S loses ", "Admit Gone: S loses ", "Resize : S loses ", "Resize : cools ", "Resize: evicts "} {
		want = append(want, what+"less than 1", what+"just 1", what+"more than 1")
	}
	for _, n := range []string{"less than ", "just ", "more than "} {
		want = append(want, "Resize: there are "+n+"C Gone")
	}
	for _, fate := range allFates() {
		want = append(want, "Has "+fate, "Touch "+fate, "Admit "+fate, "Drop "+fate)
	}
	for _, what := range want {
		if m[what] == 0 {
			t.Errorf("never met: %q", what)
		}
	}
}

// play has a pair play a script.
func (d *script) play(t *testing.T, b *pair, count int, m met) {
	t.Helper()
	f := fates(places(b.s))
	for range count {
		d.playOne(t, b, d.step(b.s), m, f)
	}
}

func (d *script) playOne(t *testing.T, b *pair, p step, m met, f fates) {
	t.Helper()
	ahead := b.s
	some := append(list(d.key(b.s), d.key(b.s)), d.lately...)
	out := b.take(t, p, some...)
	m.note(p, ahead, b.s, out, f[p.k])
	f.follow(p, ahead, b.s)
	for _, k := range some {
		m["Has "+f[k]]++
	}
	d.note(p, out)
}

// fill gives a pair the greatest capacity, and as many keys.
func (d *script) fill(t *testing.T, b *pair) {
	t.Helper()
	b.take(t, toResize(d.most))
	for len(lirs.Keys(b.s)) < d.most {
		b.pass(t, toAdmit(d.oneOf(d.keys)))
	}
}

// thin has a pair drop hot keys till few keys are there, and gives it a capacity that they fill, so that most of them are in Q.
func (d *script) thin(t *testing.T, b *pair, few int) {
	t.Helper()
	for hot := ofKind(b.s, lirs.Hot); len(lirs.Keys(b.s)) > few && len(hot) > 1; hot = ofKind(b.s, lirs.Hot) {
		b.pass(t, toDrop(d.oneOf(hot[:len(hot)-1])))
	}
	b.take(t, toResize(len(lirs.Keys(b.s))))
}

// P18.1, P18.3, P18.4: long scripts over far more keys than the capacity, also behind a Resize to less and to more again.
func TestScriptsOfManyKeys(t *testing.T) {
	m := met{}
	for seed, most := range []int{1, 2, 3, 4, 7, 9, 13, 21, 40, 150} {
		for _, touches := range []int{1, 4, 8} {
			for _, resizes := range []int{2, 30} {
				r := rand.New(rand.NewPCG(uint64(seed), 181))
				d := &script{r: r, keys: manyKeys(r, 20*most+40), strangers: list(1<<40, 1<<40+1), most: most, resizes: resizes, touches: touches}
				d.play(t, newPair(most), 1500, m)
			}
		}
	}
	for seed, most := range []int{200, 230, 320, 600} {
		for _, touches := range []int{2, 5, 8} {
			r := rand.New(rand.NewPCG(uint64(seed), 182))
			d := &script{r: r, keys: manyKeys(r, 10*most), strangers: list(1<<40, 1<<40+1), most: most, resizes: 3, touches: touches}
			b := newPair(most)
			for range 2 {
				d.fill(t, b)
				d.play(t, b, 400, m)
				d.fill(t, b)
				d.thin(t, b, 4+r.IntN(8))
				d.play(t, b, 60, m)
			}
		}
	}
	m.all(t)
}

// full is a Cache of a capacity with as many keys as there may be, beside the state that it should have: keys from 0 on came, the first ones of them are Hot, and others came behind them, of which the last ones are there, and the others Gone.
func full(t *testing.T, capacity int) *pair {
	t.Helper()
	c, hot := uint64(capacity), uint64(roomOf(capacity))
	x := New(capacity)
	for k := range 2 * c {
		var out []uint64
		if k >= c {
			out = list(hot + k - c)
		}
		same(t, "Admit, evicted", x.Admit(k), out)
	}
	s := lirs.State{C: capacity, Q: run(hot+c, 2*c-1)}
	if hot > 0 {
		s.S = slices.Concat(of(lirs.Cold, backward(s.Q)), of(lirs.Gone, backward(run(hot, hot+c-1))), of(lirs.Hot, backward(run(0, hot-1))))
	}
	b := &pair{x: x, s: s}
	b.reached()
	return b
}

// As many keys as there may be, of less capacities, where lirs's lists go all the way.
func TestFull(t *testing.T) {
	for _, c := range []int{1, 2, 3, 4, 5, 6, 7, 8, 12, 13, 20, 33, 40, 99, 100, 101, 199, 200, 201, 300} {
		b := full(t, c)
		b.fits(t, "full", run(0, uint64(2*c)))
		s := lirs.New(c)
		for k := range uint64(2 * c) {
			s, _ = lirs.Admit(s, k)
		}
		if !equal(s, b.s) || c > 1 && (len(s.S) != 2*c || b.known != 2*c) {
			t.Errorf("full: %d, not %d", s, b.s)
		}
	}
}

// P18.1, P4, P6: with as many keys as there may be; what many steps lead to is written out, as lirs's lists of that length are too slow to go all the way with, and single steps are held against lirs's.
func TestGreatestCapacity(t *testing.T) {
	const c = api.MaxCapacity
	const more = 1 << 40
	hot := uint64(roomOf(c))
	b := full(t, c)
	b.fits(t, "full", list(0, hot-1, hot, hot+c-1, hot+c, 2*c-1, 2*c, greatest))
	for i, p := range []step{
		toTouch(9), toTouch(hot - 1), toTouch(b.s.Q[3]), toTouch(0), toTouch(hot + 7), toTouch(more),
		toAdmit(more), toAdmit(hot), toAdmit(hot + c - 1), toAdmit(b.s.Q[5]), toAdmit(greatest),
		toDrop(hot + 5), toDrop(20), toDrop(b.s.Q[8]), toAdmit(more + 1), toAdmit(more + 2),
		toResize(math.MaxInt), toResize(c / 4 * 3), toAdmit(more + 3), toTouch(more + 3), toResize(c), toAdmit(more + 4),
		toResize(c - 1), toResize(math.MinInt), toAdmit(more + 5), toResize(math.MaxInt), toAdmit(more + 6),
	} {
		if i%3 < 2 {
			b.pass(t, p)
			continue
		}
		b.take(t, p, 0, 1, 9, hot, hot+c, more, more+1, more+2, more+3, more+4, more+5, 2*c, greatest)
	}
}
