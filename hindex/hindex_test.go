package hindex

import (
	"math"
	"testing"

	"hopper/mix"
)

// keyAt is the nth key, from 0 on, of those whose home is that place of so many slots.
func keyAt(home, size, nth int) uint64 {
	return mix.Unmix(uint64(home + size*nth))
}

// keysAt are keys, each with one of those homes of 8 slots, no two alike.
func keysAt(homes ...int) []uint64 {
	var keys []uint64
	for nth, home := range homes {
		keys = append(keys, keyAt(home, 8, nth))
	}
	return keys
}

// numberOf tells keys' numbers apart.
func numberOf(k uint64) int32 {
	return int32(k>>33) - int32(k&0xffff) - 7
}

// tableOf is a table into which keys were put in turn.
func tableOf(keys ...uint64) *Table {
	t := New()
	for _, k := range keys {
		t.Put(k, numberOf(k))
	}
	return t
}

// cell is what the model has in a slot.
type cell struct {
	key    uint64
	number int32
	full   bool
}

// model is a table told plainly: each key is looked for step by step, and what is laid anew was all taken out first.
type model struct {
	cells []cell
	most  int // how many keys were there at once
}

func newModel() *model { return &model{cells: make([]cell, 8)} }

// path are the slots that are gone to, looking for a key.
func (m *model) path(k uint64) []int {
	size := len(m.cells)
	var path []int
	for at := int(mix.Mix(k) % uint64(size)); ; at++ {
		if at == size {
			at = 0
		}
		path = append(path, at)
		if c := m.cells[at]; !c.full || c.key == k {
			return path
		}
	}
}

func (m *model) end(k uint64) int {
	path := m.path(k)
	return path[len(path)-1]
}

func (m *model) count() int {
	n := 0
	for _, c := range m.cells {
		if c.full {
			n++
		}
	}
	return n
}

func (m *model) lay(c cell) { m.cells[m.end(c.key)] = c }

func (m *model) put(k uint64, n int32) {
	if !m.cells[m.end(k)].full && 4*m.count()+4 > 3*len(m.cells) {
		old := m.cells
		m.cells = make([]cell, 2*len(old))
		for _, c := range old {
			if c.full {
				m.lay(c)
			}
		}
	}
	m.lay(cell{k, n, true})
	m.most = max(m.most, m.count())
}

func (m *model) delete(k uint64) bool {
	at := m.end(k)
	if !m.cells[at].full {
		return false
	}
	m.cells[at] = cell{}
	var out []cell
	for {
		at = (at + 1) % len(m.cells)
		c := m.cells[at]
		if !c.full {
			break
		}
		m.cells[at] = cell{}
		out = append(out, c)
	}
	for _, c := range out {
		m.lay(c)
	}
	return true
}

// sameSlots holds each slot, and how many there are, against the model.
func (m *model) sameSlots(t *testing.T, h *Table) {
	t.Helper()
	if h.Slots() != len(m.cells) || h.Len() != m.count() {
		t.Fatalf("%d keys, of %d slots, not %d, of %d", h.Len(), h.Slots(), m.count(), len(m.cells))
	}
	for at, c := range m.cells {
		k, n, ok := h.Slot(at)
		if k != c.key || n != c.number || ok != c.full {
			t.Fatalf("slot %d: %d, %d, %t, not %v", at, k, n, ok, c)
		}
	}
	if h.Slots() < 8 || h.Slots() > 3*m.most+8 {
		t.Fatalf("%d slots, though %d keys were there at once", h.Slots(), m.most)
	}
}

// sameKeys holds what is told of keys against the model.
func (m *model) sameKeys(t *testing.T, h *Table, keys ...uint64) {
	t.Helper()
	for _, k := range keys {
		c := m.cells[m.end(k)]
		if n, ok := h.Get(k); n != c.number || ok != c.full {
			t.Fatalf("key %d: %d, %t, not %d, %t", k, n, ok, c.number, c.full)
		}
		if got, want := h.Probes(k), len(m.path(k)); got != want {
			t.Fatalf("key %d: %d slots gone to, not %d", k, got, want)
		}
	}
}

// lies holds which keys lie in the 8 slots of a table, and that they have their numbers.
func lies(t *testing.T, h *Table, want map[int]uint64) {
	t.Helper()
	if h.Slots() != 8 || h.Len() != len(want) {
		t.Fatalf("%d keys, of %d slots", h.Len(), h.Slots())
	}
	for at := range 8 {
		k, n, ok := h.Slot(at)
		key, full := want[at]
		if ok != full || k != key || full && n != numberOf(key) || !full && n != 0 {
			t.Fatalf("slot %d: %d, %d, %t, not %d, %t", at, k, n, ok, key, full)
		}
	}
}

// P5.1
func TestNewHasEightSlotsWithoutKeys(t *testing.T) {
	h := New()
	lies(t, h, nil)
	for _, k := range []uint64{0, 1, 2, 1 << 63, math.MaxUint64} {
		if n, ok := h.Get(k); n != 0 || ok || h.Probes(k) != 1 || h.Delete(k) {
			t.Errorf("key %d: %d, %t, %d slots gone to", k, n, ok, h.Probes(k))
		}
	}
	lies(t, h, nil)
}

// P5.1: key 0 is one like any other, and isn't there unless it was put.
func TestKeyZero(t *testing.T) {
	h := New()
	if _, ok := h.Get(0); ok {
		t.Fatal("it is there")
	}
	h.Put(0, 0)
	if n, ok := h.Get(0); n != 0 || !ok || h.Len() != 1 {
		t.Errorf("%d, %t, %d keys", n, ok, h.Len())
	}
	if k, n, ok := h.Slot(0); k != 0 || n != 0 || !ok {
		t.Errorf("slot 0: %d, %d, %t", k, n, ok)
	}
	if !h.Delete(0) || h.Delete(0) || h.Len() != 0 {
		t.Error("deleted")
	}
	lies(t, h, nil)
}

// P5.1: each number may be put, and is told again.
func TestAllKindsOfNumbers(t *testing.T) {
	h := New()
	for _, n := range []int32{0, 1, -1, 77, math.MaxInt32, math.MinInt32} {
		h.Put(9, n)
		got, ok := h.Get(9)
		_, inSlot, _ := h.Slot(mix.Home(9, 8))
		if got != n || !ok || inSlot != n || h.Len() != 1 {
			t.Errorf("%d: %d, %t, %d in its slot", n, got, ok, inSlot)
		}
	}
}

// P5.1: keys of one home lie one behind the other, round slot 0.
func TestKeysAreLaidFromTheirHomesOn(t *testing.T) {
	for home := range 8 {
		k := keysAt(home, home, home, (home+1)%8, home)
		lies(t, tableOf(k...), map[int]uint64{home: k[0], (home + 1) % 8: k[1], (home + 2) % 8: k[2], (home + 3) % 8: k[3], (home + 4) % 8: k[4]})
	}
}

// P5.1: a key that is there has the new number, in its slot, and there are no more keys.
func TestPutAgain(t *testing.T) {
	k := keysAt(7, 7, 0, 3)
	h := tableOf(k...)
	for round := range int32(3) {
		for i, key := range k {
			h.Put(key, round*10+int32(i))
		}
		for i, at := range []int{7, 0, 1, 3} {
			if key, n, ok := h.Slot(at); key != k[i] || n != round*10+int32(i) || !ok {
				t.Errorf("slot %d: %d, %d, %t", at, key, n, ok)
			}
		}
	}
	if h.Len() != 4 || h.Slots() != 8 {
		t.Errorf("%d keys, of %d slots", h.Len(), h.Slots())
	}
}

// P5.1: the chapter's example, and every bound up to many slots: slots come with the first key that fills more than three quarters of them.
func TestSlotsComeTwiceAsMany(t *testing.T) {
	h := New()
	slots := 8
	for n := 1; n <= 100000; n++ {
		if 4*n > 3*slots {
			slots *= 2
		}
		h.Put(uint64(n), int32(n))
		if h.Len() != n || h.Slots() != slots {
			t.Fatalf("%d keys: %d, of %d slots, not of %d", n, h.Len(), h.Slots(), slots)
		}
	}
	for n := 1; n <= 100000; n++ {
		if got, ok := h.Get(uint64(n)); int(got) != n || !ok {
			t.Fatalf("%d: %d, %t", n, got, ok)
		}
	}
}

// P5.1: at the bounds, told by numbers.
func TestSlotsOfSomeCounts(t *testing.T) {
	for _, c := range []struct{ keys, slots int }{{0, 8}, {1, 8}, {5, 8}, {6, 8}, {7, 16}, {12, 16}, {13, 32}, {24, 32}, {25, 64}, {48, 64}, {49, 128}, {3072, 4096}, {3073, 8192}} {
		h := New()
		for k := range uint64(c.keys) {
			h.Put(k<<40, 1)
		}
		if h.Slots() != c.slots || h.Len() != c.keys {
			t.Errorf("%d keys: %d, of %d slots, not of %d", c.keys, h.Len(), h.Slots(), c.slots)
		}
	}
}

// P5.1: a key that is there brings no more slots, however full the table is; one that isn't does.
func TestNoMoreSlotsForAKeyThatIsThere(t *testing.T) {
	k := keysAt(2, 2, 5, 7, 7, 1)
	h := tableOf(k...)
	for _, key := range k {
		h.Put(key, numberOf(key))
	}
	lies(t, h, map[int]uint64{2: k[0], 3: k[1], 5: k[2], 7: k[3], 0: k[4], 1: k[5]})
	h.Put(keyAt(4, 8, 9), 1)
	if h.Slots() != 16 || h.Len() != 7 {
		t.Errorf("%d keys, of %d slots", h.Len(), h.Slots())
	}
}

// P5.1: what counts is how many keys there are, not how many there were; and deleting leaves as many slots.
func TestSlotsByHowManyKeysThereAre(t *testing.T) {
	h := New()
	for k := range uint64(6) {
		h.Put(k, 1)
	}
	for k := uint64(6); k < 2000; k++ {
		if !h.Delete(k - 6) {
			t.Fatalf("%d isn't deleted", k-6)
		}
		h.Put(k, 1)
		if h.Slots() != 8 || h.Len() != 6 {
			t.Fatalf("%d keys, of %d slots", h.Len(), h.Slots())
		}
	}
	h.Put(5000, 1)
	for k := range uint64(6000) {
		h.Delete(k)
	}
	if h.Slots() != 16 || h.Len() != 0 {
		t.Errorf("%d keys, of %d slots", h.Len(), h.Slots())
	}
}

// P5.1: into twice as many slots keys are laid in the turn of their slots, whatever the turn in which they were put; the one that brought the slots comes last.
func TestMoreSlotsInTheTurnOfSlots(t *testing.T) {
	a, b, c, d, e := keyAt(7, 16, 0), keyAt(7, 16, 1), keyAt(7, 16, 2), keyAt(15, 16, 0), keyAt(15, 16, 1)
	f, last := keyAt(3, 16, 0), keyAt(7, 16, 5)
	h := tableOf(a, d, b, e, c, f)
	lies(t, h, map[int]uint64{7: a, 0: d, 1: b, 2: e, 3: c, 4: f})
	h.Put(last, numberOf(last))
	want := map[int]uint64{15: d, 7: b, 0: e, 8: c, 3: f, 9: a, 10: last}
	if h.Slots() != 16 || h.Len() != 7 {
		t.Fatalf("%d keys, of %d slots", h.Len(), h.Slots())
	}
	for at := range 16 {
		key, full := want[at]
		if k, n, ok := h.Slot(at); ok != full || k != key || full && n != numberOf(key) {
			t.Errorf("slot %d: %d, %d, %t, not %d", at, k, n, ok, key)
		}
	}
}

// P5.2: the keys behind the one that goes come nearer to their homes, but never ahead of them; told by hand, round slot 0.
func TestDeleteLaysAnewWhatComesBehind(t *testing.T) {
	for _, c := range []struct {
		homes []int
		out   int
		left  map[int]int
	}{
		{[]int{3}, 0, map[int]int{}},
		{[]int{3, 4}, 0, map[int]int{4: 1}},
		{[]int{3, 3}, 0, map[int]int{3: 1}},
		{[]int{3, 3, 3}, 1, map[int]int{3: 0, 4: 2}},
		{[]int{3, 3, 3}, 2, map[int]int{3: 0, 4: 1}},
		{[]int{3, 4, 3}, 0, map[int]int{3: 2, 4: 1}},
		{[]int{3, 4, 3, 4}, 0, map[int]int{3: 2, 4: 1, 5: 3}},
		{[]int{3, 4, 3, 4}, 1, map[int]int{3: 0, 4: 2, 5: 3}},
		{[]int{3, 3, 5, 4}, 0, map[int]int{3: 1, 5: 2, 4: 3}},
		{[]int{7, 7, 7}, 0, map[int]int{7: 1, 0: 2}},
		{[]int{7, 0, 7}, 0, map[int]int{7: 2, 0: 1}},
		{[]int{7, 0, 1, 7}, 0, map[int]int{7: 3, 0: 1, 1: 2}},
		{[]int{7, 0, 1, 7}, 1, map[int]int{7: 0, 0: 3, 1: 2}},
		{[]int{6, 7, 6, 7, 1}, 0, map[int]int{6: 2, 7: 1, 0: 3, 1: 4}},
		{[]int{6, 7, 6, 7, 1}, 1, map[int]int{6: 0, 7: 2, 0: 3, 1: 4}},
		{[]int{6, 6, 6, 6, 6, 6}, 2, map[int]int{6: 0, 7: 1, 0: 3, 1: 4, 2: 5}},
		{[]int{2, 2, 4}, 0, map[int]int{2: 1, 4: 2}},
		{[]int{0, 7, 7}, 1, map[int]int{0: 0, 7: 2}},
	} {
		k := keysAt(c.homes...)
		h := tableOf(k...)
		want := map[int]uint64{}
		for at, i := range c.left {
			want[at] = k[i]
		}
		if !h.Delete(k[c.out]) {
			t.Errorf("%v: key %d isn't deleted", c.homes, c.out)
		}
		lies(t, h, want)
		if h.Delete(k[c.out]) {
			t.Errorf("%v: key %d is deleted twice", c.homes, c.out)
		}
		lies(t, h, want)
	}
}

// P5.2: a key that isn't there isn't deleted, though others of its home are, and nothing is changed.
func TestDeleteWhatIsNotThere(t *testing.T) {
	k := keysAt(6, 6, 7, 1)
	h := tableOf(k...)
	want := map[int]uint64{6: k[0], 7: k[1], 0: k[2], 1: k[3]}
	for home := range 8 {
		if h.Delete(keyAt(home, 8, 100)) {
			t.Errorf("home %d", home)
		}
		lies(t, h, want)
	}
}

// P5.2: of all ways to lay five keys into 8 slots, each key that goes.
func TestDeleteOfAllHomes(t *testing.T) {
	for code := range 8 * 8 * 8 * 8 * 8 {
		k := keysAt(code%8, code/8%8, code/64%8, code/512%8, code/4096)
		for _, out := range k {
			h, m := New(), newModel()
			for _, key := range k {
				h.Put(key, numberOf(key))
				m.put(key, numberOf(key))
			}
			if !h.Delete(out) || !m.delete(out) {
				t.Fatalf("%v: %d isn't deleted", k, out)
			}
			m.sameSlots(t, h)
		}
	}
}

// P5.2: a key that went may come again, behind those that were laid anew.
func TestPutWhatWasDeleted(t *testing.T) {
	k := keysAt(7, 7, 7)
	h := tableOf(k...)
	h.Delete(k[0])
	if n, ok := h.Get(k[0]); n != 0 || ok {
		t.Errorf("%d, %t", n, ok)
	}
	h.Put(k[0], numberOf(k[0]))
	lies(t, h, map[int]uint64{7: k[1], 0: k[2], 1: k[0]})
}

// P5.2, P1: many keys of one home, and all of them out again.
func TestManyKeysOfOneHome(t *testing.T) {
	const many = 3000
	h := New()
	for n := range many {
		h.Put(keyAt(8191, 8192, n), int32(n))
	}
	for n := range many {
		if got, ok := h.Get(keyAt(8191, 8192, n)); int(got) != n || !ok {
			t.Fatalf("key %d: %d, %t", n, got, ok)
		}
	}
	for n := range many {
		if !h.Delete(keyAt(8191, 8192, n)) || h.Len() != many-n-1 {
			t.Fatalf("key %d: %d are left", n, h.Len())
		}
	}
}

// P5.3
func TestProbes(t *testing.T) {
	k := keysAt(6, 6, 6, 7, 0, 3)
	h := tableOf(k...)
	lies(t, h, map[int]uint64{6: k[0], 7: k[1], 0: k[2], 1: k[3], 2: k[4], 3: k[5]})
	for i, want := range []int{1, 2, 3, 3, 3, 1} {
		if got := h.Probes(k[i]); got != want {
			t.Errorf("key %d: %d slots gone to, not %d", i, got, want)
		}
	}
	for home, want := range []int{5, 4, 3, 2, 1, 1, 7, 6} {
		if got := h.Probes(keyAt(home, 8, 50)); got != want {
			t.Errorf("one of home %d that isn't there: %d slots gone to, not %d", home, got, want)
		}
	}
	h.Delete(k[0])
	for i, want := range []int{5, 1, 2, 2, 2, 1} {
		if got := h.Probes(k[i]); got != want {
			t.Errorf("key %d, without the first: %d slots gone to, not %d", i, got, want)
		}
	}
}

// P5.3: what is asked changes nothing.
func TestAskingChangesNothing(t *testing.T) {
	k := keysAt(6, 6, 7, 1, 1, 4)
	h, m := tableOf(k...), newModel()
	for _, key := range k {
		m.put(key, numberOf(key))
	}
	for i := -3; i < 12; i++ {
		h.Slot(i)
		h.Get(uint64(i))
		h.Probes(uint64(i))
		h.Len()
		h.Slots()
	}
	m.sameSlots(t, h)
	m.sameKeys(t, h, k...)
}

// P5.3: places that are no slot's.
func TestNoSlot(t *testing.T) {
	h := New()
	for n := range uint64(20) {
		size := h.Slots()
		for _, at := range []int{math.MinInt64, math.MinInt32, -size - 1, -size, -1, size, size + 1, 2 * size, math.MaxInt32, 1 << 32, math.MaxInt64} {
			if k, number, ok := h.Slot(at); k != 0 || number != 0 || ok {
				t.Errorf("%d slots: slot %d: %d, %d, %t", size, at, k, number, ok)
			}
		}
		h.Put(n, 5)
	}
}

// P5.3
func TestNilTable(t *testing.T) {
	var h *Table
	for _, k := range []uint64{0, 1, math.MaxUint64} {
		h.Put(k, 3)
		if n, ok := h.Get(k); n != 0 || ok || h.Delete(k) || h.Probes(k) != 0 {
			t.Errorf("key %d: %d, %t, %d slots gone to", k, n, ok, h.Probes(k))
		}
	}
	for _, at := range []int{math.MinInt64, -1, 0, 1, 7, 8, math.MaxInt64} {
		if k, n, ok := h.Slot(at); k != 0 || n != 0 || ok {
			t.Errorf("slot %d: %d, %d, %t", at, k, n, ok)
		}
	}
	if h.Len() != 0 || h.Slots() != 0 {
		t.Errorf("%d keys, of %d slots", h.Len(), h.Slots())
	}
}

// R4: tables share nothing.
func TestTablesAreApart(t *testing.T) {
	h, other := tableOf(1, 2, 3), New()
	lies(t, other, nil)
	other.Put(2, 99)
	h.Delete(3)
	if n, ok := h.Get(2); n != numberOf(2) || !ok || h.Len() != 2 || other.Len() != 1 {
		t.Errorf("%d, %t", n, ok)
	}
}

// gapless holds that no slot ahead of a key's, from its home on, has nothing.
func gapless(t *testing.T, h *Table) {
	t.Helper()
	size := h.Slots()
	for i := range size {
		k, _, ok := h.Slot(i)
		if !ok {
			continue
		}
		for at := mix.Home(k, size); at != i; at = (at + 1) % size {
			if _, _, full := h.Slot(at); !full {
				t.Fatalf("key %d in slot %d: slot %d has nothing", k, i, at)
			}
		}
	}
}

// P5.1 to P5.4: long runs of all calls, of few homes and of many, held against the model step by step.
func TestRunsAreTheModels(t *testing.T) {
	for run := range 24 {
		h, m := New(), newModel()
		state := uint64(run + 1)
		draw := func(n int) int {
			state = state*6364136223846793005 + 1442695040888963407
			return int(state>>33) % n
		}
		homes, most := 1+run%6*3, 4+run*4
		var keys []uint64
		for n := range most {
			keys = append(keys, keyAt((14+draw(homes))%16, 16, n))
		}
		for step := range 1500 {
			k := keys[draw(len(keys))]
			// Runs grow at first, and are emptied at last.
			if draw(10) < 7-step/300 {
				n := int32(draw(1 << 30))
				h.Put(k, n)
				m.put(k, n)
			} else if got, want := h.Delete(k), m.delete(k); got != want {
				t.Fatalf("run %d, step %d: key %d deleted: %t", run, step, k, got)
			}
			m.sameSlots(t, h)
			m.sameKeys(t, h, k, keys[draw(len(keys))], uint64(draw(100)))
			if step%50 == 0 {
				m.sameKeys(t, h, keys...)
				gapless(t, h)
			}
		}
	}
}

// P5.4: a key's number is the one that was put last, as a map has it.
func TestNumbersAreThosePutLast(t *testing.T) {
	h, plain := New(), map[uint64]int32{}
	state, most := uint64(5), 0
	for step := range int32(60000) {
		state = state*6364136223846793005 + 1442695040888963407
		k := state >> 33 % 5000
		if state>>60 < 5 {
			_, was := plain[k]
			delete(plain, k)
			if h.Delete(k) != was {
				t.Fatalf("step %d: key %d", step, k)
			}
		} else {
			plain[k] = step
			h.Put(k, step)
		}
		most = max(most, len(plain))
		if h.Len() != len(plain) || h.Slots() > 3*most+8 {
			t.Fatalf("step %d: %d keys, of %d slots", step, h.Len(), h.Slots())
		}
	}
	for k := range uint64(5000) {
		want, was := plain[k]
		if n, ok := h.Get(k); n != want || ok != was {
			t.Errorf("key %d: %d, %t, not %d, %t", k, n, ok, want, was)
		}
	}
	gapless(t, h)
}
