package esthree

import (
	"math"
	"math/rand/v2"
	"slices"
	"strconv"
	"testing"

	"hopper/api"
	"hopper/mix"
	"hopper/sthree"
)

// slots are how many a store has that had so many keys at once.
type slots struct{ nodes, keys int }

func slotsOf(most int) slots {
	s := slots{8, 8}
	for n := 1; n <= most; n++ {
		if n == s.nodes { // slot 0 is no node's
			s.nodes *= 2
		}
		if 4*n > 3*s.keys {
			s.keys *= 2
		}
	}
	return s
}

// pair is a Cache beside sthree's state, and what there was at most.
type pair struct {
	x        *Cache
	s        sthree.State
	keys     int // how many were there, or remembered, at once
	capacity int // the greatest one so far
	want     slots
}

func newPair(c int) *pair {
	s := sthree.New(c)
	return &pair{x: New(c), s: s, capacity: s.C, want: slotsOf(0)}
}

// reached notes how much there is.
func (b *pair) reached() {
	b.capacity = max(b.capacity, b.s.C)
	if n := len(b.s.Small) + len(b.s.Main) + len(b.s.Ghost); n > b.keys {
		b.keys, b.want = n, slotsOf(n)
	}
}

// take takes a step of both, holds what they tell against each other, and tells what was evicted.
func (b *pair) take(t *testing.T, p step, asked ...uint64) []uint64 {
	t.Helper()
	ahead := len(b.s.Small) + len(b.s.Main)
	out := p.do(b.x)
	next, want := p.follow(b.s)
	b.s = next
	if !slices.Equal(out, want) {
		t.Fatalf("%v: evicted %d, not %d", p, out, want)
	}
	if p.kind == resize && len(out) != max(ahead-next.C, 0) { // P6
		t.Fatalf("%v of %d keys: %d were evicted", p, ahead, len(out))
	}
	b.reached()
	b.fits(t, p.String(), append(asked, p.k))
	return out
}

// fits holds all that the Cache tells against what sthree's functions tell of the state.
func (b *pair) fits(t *testing.T, what string, asked []uint64) {
	t.Helper()
	s := b.x.State()
	if !equal(s, b.s) {
		t.Fatalf("%s, State: %d, not %d", what, s, b.s)
	}
	keys := b.x.Keys()
	if want := sthree.Keys(b.s); !slices.Equal(keys, want) {
		t.Fatalf("%s, Keys: %d, not %d", what, keys, want)
	}
	if g := b.x.Ghosts(); g != sthree.Ghosts(b.s) {
		t.Fatalf("%s, Ghosts: %d", what, g)
	}
	if len(keys) > s.C || b.x.Ghosts() > mostGhosts(s.C) { // P4
		t.Fatalf("%s: too many keys: %d", what, s)
	}
	for _, k := range asked {
		if b.x.Has(k) != sthree.Has(b.s, k) {
			t.Fatalf("%s, Has %d: %t, of %d", what, k, b.x.Has(k), b.s)
		}
	}
	b.roomsFit(t, what)
}

// roomsFit holds Rooms against the bound, and against what a store of as many keys has.
func (b *pair) roomsFit(t *testing.T, what string) {
	t.Helper()
	nodes, keys := b.x.Rooms()
	if most := 12*b.capacity + 32; nodes > most || keys > most {
		t.Fatalf("%s, Rooms: %d, %d, above %d", what, nodes, keys, most)
	}
	if got := (slots{nodes, keys}); got != b.want {
		t.Fatalf("%s, Rooms: %d, not %d, of %d keys at once", what, got, b.want, b.keys)
	}
}

// leastOfSmall is how many items Small has, at least, when it is evicted from it, where Main has some.
func leastOfSmall(c int) int {
	if c < 20 {
		return 1
	}
	return c / 10
}

func mostGhosts(c int) int { return c - leastOfSmall(c) }

// built is a pair with just a state.
func built(t *testing.T, s sthree.State) *pair {
	t.Helper()
	c, steps := building(s)
	b := newPair(c)
	for _, p := range steps {
		b.take(t, p)
	}
	if !equal(b.s, s) {
		t.Fatalf("built %d, not %d", b.s, s)
	}
	return b
}

// again is the same pair once more, for other steps.
func (b *pair) again() *pair {
	c := *b
	c.x = cache(b.s)
	return &c
}

// triedCapacities are of all sorts.
func triedCapacities() []int {
	return []int{math.MinInt, -1, 0, 1, 2, 3, 4, 9, 10, 20, 1048576, 1048577, math.MaxInt}
}

// triedSteps are all calls that change a Cache, with some keys and those capacities.
func triedSteps(keys []uint64) []step {
	var all []step
	for _, k := range keys {
		all = append(all, toTouch(k), toAdmit(k), toDrop(k))
	}
	for _, c := range triedCapacities() {
		all = append(all, toResize(c))
	}
	return all
}

// triedItems are items of keys with all Freqs that they may have.
func triedItems(keys []uint64) [][]sthree.Item {
	all := [][]sthree.Item{nil}
	for _, k := range keys {
		var longer [][]sthree.Item
		for _, l := range all {
			for freq := range 4 {
				longer = append(longer, append(slices.Clone(l), sthree.Item{Key: k, Freq: freq}))
			}
		}
		all = longer
	}
	return all
}

// triedStates are all that a Cache of a capacity can come to, up to the keys' names.
func triedStates(c int) []sthree.State {
	names := append(list(0, greatest, 1<<32), run(1, 20)...)
	var all []sthree.State
	for keys := range c + 1 {
		for ghosts := range mostGhosts(c) + 1 {
			turned := len(all) % 3
			l := append(slices.Clone(names[turned:]), names[:turned]...)
			for _, used := range triedItems(l[:keys]) {
				for small := range keys + 1 {
					all = append(all, sthree.State{C: c, Small: used[:small], Main: used[small:], Ghost: l[keys : keys+ghosts]})
				}
			}
		}
	}
	return all
}

// known are all keys of a state's lists, and two of none of them.
func known(s sthree.State) []uint64 {
	return slices.Concat(there(s), s.Ghost, list(77, 1<<63))
}

// P16.1: from all states of the least capacities, each two calls are as sthree's.
func TestAllStates(t *testing.T) {
	for c := 1; c <= 2; c++ {
		for _, s := range triedStates(c) {
			first := built(t, s)
			asked := known(s)
			steps := triedSteps(asked)
			for _, p := range steps {
				for _, q := range steps {
					b := first.again()
					b.take(t, p)
					b.take(t, q, asked...)
				}
			}
		}
	}
}

// P16.1: from all states of greater capacities, where more keys go round, and are remembered, each call is as sthree's.
func TestAllStatesOfMoreKeys(t *testing.T) {
	for c := 3; c <= 4; c++ {
		for _, s := range triedStates(c) {
			first := built(t, s)
			asked := known(s)
			for _, p := range triedSteps(asked) {
				first.again().take(t, p, asked...)
			}
		}
	}
}

// script draws steps. Keys are any of some, ones that are in a list, and ones that came or went lately; none of strangers is ever admitted.
type script struct {
	r         *rand.Rand
	keys      []uint64
	lately    []uint64
	strangers []uint64
	most      int // of its capacities
	resizes   int // of 1000 steps
	touches   int // of 10 of the others
}

func (d *script) oneOf(l []uint64) uint64 { return l[d.r.IntN(len(l))] }

func (d *script) known(s sthree.State) uint64 {
	lists := [][]uint64{d.keys, d.keys, d.lately, keysOf(s.Small), keysOf(s.Main), s.Ghost, s.Ghost}
	if l := lists[d.r.IntN(len(lists))]; len(l) > 0 {
		return d.oneOf(l)
	}
	return d.oneOf(d.keys)
}

func (d *script) key(s sthree.State) uint64 {
	if d.r.IntN(8) == 0 {
		return d.oneOf(d.strangers)
	}
	return d.known(s)
}

// capacity is any one, or one near a state's.
func (d *script) capacity(s sthree.State) int {
	if d.r.IntN(2) == 0 {
		return d.r.IntN(d.most+3) - 1
	}
	return min(s.C+2-d.r.IntN(5), d.most+1)
}

func (d *script) step(s sthree.State) step {
	if d.r.IntN(1000) < d.resizes {
		return toResize(d.capacity(s))
	}
	switch n := d.r.IntN(10); {
	case n < d.touches:
		return toTouch(d.key(s))
	case n < 9 || d.r.IntN(3) > 0: // so that there is often no room
		return toAdmit(d.known(s))
	}
	return toDrop(d.key(s))
}

// note lets the keys of a step come again soon.
func (d *script) note(p step, out []uint64) {
	d.lately = append(d.lately, out[:min(len(out), 4)]...)
	if p.kind == admit || p.kind == drop {
		d.lately = append(d.lately, p.k)
	}
	d.lately = d.lately[max(len(d.lately)-12, 0):]
}

// fewKeys are so many that all are asked for at each step.
func fewKeys(count int) []uint64 {
	keys := list(0, greatest, 1<<32)
	for len(keys) < count {
		keys = append(keys, uint64(len(keys)))
	}
	return keys
}

// manyKeys are far more than any capacity of a script: key 0, the greatest one, small ones, and ones that crowd round few places of the store's table.
func manyKeys(r *rand.Rand, count int) []uint64 {
	keys := list(0, greatest)
	for n := len(keys); n < count; n++ {
		if n%2 == 0 {
			keys = append(keys, uint64(n))
		} else {
			keys = append(keys, mix.Unmix(uint64(n)<<20|uint64(r.IntN(3))))
		}
	}
	return keys
}

// P16.1, P16.3: long scripts of few keys are as sthree's behind each act, of all of them, wherever they are, or were.
func TestScripts(t *testing.T) {
	strangers := list(77, 1<<63, greatest-1)
	for seed := range uint64(80) {
		r := rand.New(rand.NewPCG(seed, 16))
		keys := fewKeys(4 + r.IntN(40))
		d := &script{r: r, keys: keys, strangers: strangers, most: len(keys), resizes: 30, touches: 2 + int(seed%6)}
		b := newPair(r.IntN(len(keys)+2) - 1)
		asked := append(keys, strangers...)
		for range 600 {
			p := d.step(b.s)
			d.note(p, b.take(t, p, asked...))
		}
	}
}

// place is the list of a state that has a key.
func place(s sthree.State, k uint64) string {
	switch {
	case slices.Contains(keysOf(s.Small), k):
		return "in Small"
	case slices.Contains(keysOf(s.Main), k):
		return "in Main"
	case slices.Contains(s.Ghost, k):
		return "remembered"
	}
	return ""
}

// pasts are what became of keys that are in no list any more: of one that never was there is none.
type pasts map[uint64]string

// fate is where a key is, or what became of it.
func (f pasts) fate(s sthree.State, k uint64) string {
	if at := place(s, k); at != "" {
		return at
	}
	return f[k]
}

// follow notes what a step made of the state ahead of it.
func (f pasts) follow(p step, ahead, s sthree.State) {
	if at := place(ahead, p.k); p.kind == drop && at != "" {
		f[p.k] = "dropped, once " + at
	}
	if p.kind != admit && p.kind != resize {
		return
	}
	for _, k := range slices.Concat(keysOf(ahead.Main), ahead.Ghost) {
		if place(s, k) == "" {
			f[k] = "forgotten, once " + place(ahead, k)
		}
	}
}

// allFates are all that a key's fate may be.
func allFates() []string {
	return []string{
		"", "in Small", "in Main", "remembered", "forgotten, once in Main", "forgotten, once remembered",
		"dropped, once in Small", "dropped, once in Main", "dropped, once remembered",
	}
}

// met counts what scripts do of keys of which fate, and out of which states keys leave.
type met map[string]int

// note notes a step, with the state ahead of it, and what it evicted.
func (m met) note(p step, ahead sthree.State, fate string, out []uint64) {
	m[[]string{touch: "Touch ", admit: "Admit ", drop: "Drop ", resize: "Resize "}[p.kind]+fate]++
	if p.kind != admit || len(out) == 0 {
		return
	}
	m["evicted for one that is "+fate]++
	if len(ahead.Main) == 0 {
		m["Main has none"]++
	}
	least := leastOfSmall(ahead.C)
	if len(ahead.Small) < least {
		m["Small has less than the target"]++
		m["last of Main: "+strconv.Itoa(ahead.Main[len(ahead.Main)-1].Freq)]++
		if !slices.ContainsFunc(ahead.Main, func(it sthree.Item) bool { return it.Freq < 3 }) {
			m["all of Main: 3"]++
		}
		return
	}
	m["last of Small: "+strconv.Itoa(ahead.Small[len(ahead.Small)-1].Freq)]++
	if len(ahead.Small) == least {
		m["Small has just the target"]++
	} else {
		m["Small has more than the target"]++
	}
	if !slices.ContainsFunc(ahead.Small, func(it sthree.Item) bool { return it.Freq < 2 }) {
		m["all of Small go to Main"]++
	}
}

// all asks for all that there is to be met.
func (m met) all(t *testing.T) {
	t.Helper()
	want := []string{
		"Main has none", "Small has less than the target", "Small has just the target", "Small has more than the target",
		"last of Small: 0", "last of Small: 1", "last of Small: 2", "last of Small: 3", "all of Small go to Main",
		"last of Main: 0", "last of Main: 1", "last of Main: 2", "last of Main: 3", "all of Main: 3",
		"evicted for one that is ", "evicted for one that is remembered", "Resize ",
	}
	for _, fate := range allFates() {
		want = append(want, "Has "+fate, "Touch "+fate, "Admit "+fate, "Drop "+fate)
	}
	for _, what := range want {
		if m[what] == 0 {
			t.Errorf("never met: %q", what)
		}
	}
}

// play has a pair play a script.
func (d *script) play(t *testing.T, b *pair, count int, m met) {
	t.Helper()
	f := pasts{}
	for range count {
		p, ahead := d.step(b.s), b.s
		fate := f.fate(ahead, p.k)
		some := append(list(d.key(b.s), d.key(b.s)), d.lately...)
		out := b.take(t, p, some...)
		m.note(p, ahead, fate, out)
		f.follow(p, ahead, b.s)
		for _, k := range some {
			m["Has "+f.fate(b.s, k)]++
		}
		d.note(p, out)
	}
}

// P16.1, P16.3, P16.4: long scripts over far more keys than the capacity, also behind a Resize to less and to more again.
func TestScriptsOfManyKeys(t *testing.T) {
	m := met{}
	for seed, most := range []int{1, 2, 3, 4, 7, 9, 13, 21, 40, 150} {
		for _, touches := range []int{1, 4, 8} {
			for _, resizes := range []int{2, 30} {
				r := rand.New(rand.NewPCG(uint64(seed), 161))
				d := &script{r: r, keys: manyKeys(r, 20*most+40), strangers: list(1<<40, 1<<40+1), most: most, resizes: resizes, touches: touches}
				d.play(t, newPair(most), 2000, m)
			}
		}
	}
	m.all(t)
}

// full is a Cache of the greatest capacity with as many keys as there may be, beside the state that it should have: no key was used, none is in Main, and the last one of Ghost is first.
func full(t *testing.T, first uint64) *pair {
	t.Helper()
	const most = api.MaxCapacity
	ghosts := uint64(mostGhosts(most))
	x := New(math.MaxInt)
	for k := range most + ghosts + first {
		out := x.Admit(k)
		if k < most && len(out) > 0 || k >= most && !slices.Equal(out, list(k-most)) {
			t.Fatalf("Admit %d: evicted %d", k, out)
		}
	}
	b := &pair{x: x, s: sthree.State{C: most, Small: itemsOf(run(ghosts+first, most+ghosts+first-1), 0), Ghost: run(first, ghosts+first-1)}}
	slices.Reverse(b.s.Small)
	slices.Reverse(b.s.Ghost)
	b.reached()
	return b
}

// leaveSmall has a full Cache's last keys of Ghost come to Main in turn, till Small has one less than the target.
func (b *pair) leaveSmall(t *testing.T, first uint64) {
	t.Helper()
	keep := leastOfSmall(b.s.C) - 1
	gone := len(b.s.Small) - keep
	for n := range gone {
		k := b.s.Small[len(b.s.Small)-1-n].Key
		if out := b.x.Admit(first + uint64(n)); !slices.Equal(out, list(k)) {
			t.Fatalf("Admit %d: evicted %d, not %d", first+uint64(n), out, k)
		}
	}
	main := run(first, first+uint64(gone)-1)
	slices.Reverse(main)
	b.s.Main = itemsOf(main, 0)
	b.s.Ghost = slices.Concat(keysOf(b.s.Small[keep:]), b.s.Ghost)[:len(b.s.Ghost)]
	b.s.Small = b.s.Small[:keep]
}

// use touches all keys of a list.
func (b *pair) use(l []sthree.Item, times int) {
	for _, it := range l {
		for range times {
			b.x.Touch(it.Key)
		}
	}
}

// P16.1, P4, P6: with as many keys as there may be; what many steps lead to is written out, as sthree's lists of that length are too slow to go all the way with, and single steps are held against sthree's.
func TestGreatestCapacity(t *testing.T) {
	const first, more = 1000, 1 << 40
	b := full(t, first)
	b.fits(t, "full", list(0, first-1, first, b.s.Ghost[0], b.s.Small[0].Key, b.s.Small[0].Key+1))
	b.leaveSmall(t, first)
	b.fits(t, "Small has less than the target", list(first-1, first, b.s.Main[0].Key, b.s.Ghost[0]))

	b.use(b.s.Main, 4) // all go round as often as their Freq, 3, tells
	last := len(b.s.Main) - 1
	same(t, "Admit where all of Main were used, evicted", b.x.Admit(more), list(first))
	b.s.Main = b.s.Main[:last]
	b.s.Small = append(itemsOf(list(more), 0), b.s.Small...)
	b.fits(t, "all of Main were used", list(first, more))

	b.use(b.s.Small, 2) // all go to Main
	same(t, "Admit where all of Small were used, evicted", b.x.Admit(more+1), list(first+1))
	b.s.Main = slices.Concat(b.s.Small, b.s.Main[:last-1])
	b.s.Small = itemsOf(list(more+1), 0)
	b.fits(t, "all of Small were used", list(first+1, more, more+1))

	for _, p := range []step{
		toTouch(b.s.Main[9].Key), toDrop(b.s.Main[7].Key), toDrop(b.s.Ghost[7]),
		toAdmit(0), toAdmit(b.s.Ghost[5]), toAdmit(1), toAdmit(b.s.Ghost[len(b.s.Ghost)-1]),
		toResize(math.MaxInt), toResize(b.s.C / 4 * 3), toAdmit(2), toResize(b.s.C), toAdmit(3),
		toResize(math.MinInt), toAdmit(4), toResize(math.MaxInt),
	} {
		b.take(t, p, 0, 1, 2, 3, 4, first, more)
	}
}
