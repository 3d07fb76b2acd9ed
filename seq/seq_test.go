package seq

import (
	"math"
	"slices"
	"testing"
)

const greatest = math.MaxUint64

// mark stands behind a list that is handed in, and in all that a test writes: no list of a test has it as a key.
const mark = 0xdead

// list writes a list of keys shortly.
func list(keys ...uint64) []uint64 { return keys }

// run is a list of so many keys, from a first one on.
func run(first uint64, count int) []uint64 {
	l := make([]uint64, count)
	for i := range l {
		l[i] = first + uint64(i)
	}
	return l
}

// reversed is a list from its back on.
func reversed(l []uint64) []uint64 {
	var r []uint64
	for _, k := range l {
		r = append([]uint64{k}, r...)
	}
	return r
}

// without is Without told plainly: key by key, each copied.
func without(l []uint64, k uint64) []uint64 {
	var r []uint64
	for _, other := range l {
		if other != k {
			r = append(r, other)
		}
	}
	return r
}

// apart is Apart told plainly: each key held against all behind it.
func apart(lists ...[]uint64) bool {
	all := slices.Concat(lists...)
	for i, k := range all {
		for _, other := range all[i+1:] {
			if k == other {
				return false
			}
		}
	}
	return true
}

// shortLists are all lists of some keys that have no more than so many.
func shortLists(most int, keys ...uint64) [][]uint64 {
	lists := [][]uint64{nil}
	for from, length := 0, 0; length < most; length++ {
		longer := lists[from:]
		from = len(lists)
		for _, l := range longer {
			for _, k := range keys {
				lists = append(lists, append(slices.Clone(l), k))
			}
		}
	}
	return lists
}

func same(t *testing.T, what string, got, want []uint64) {
	t.Helper()
	if !slices.Equal(got, want) {
		t.Errorf("%s: %d, not %d", what, got, want)
	}
}

// P7.1: Has.
func TestHas(t *testing.T) {
	for _, c := range []struct {
		l    []uint64
		k    uint64
		want bool
	}{
		{nil, 0, false},
		{list(), 0, false},
		{nil, greatest, false},
		{list(0), 0, true},
		{list(0), 1, false},
		{list(7), 0, false},
		{list(greatest), greatest, true},
		{list(greatest), greatest - 1, false},
		{list(greatest - 1), greatest, false},
		{list(1 << 32), 0, false},
		{list(1, 2, 3), 1, true},
		{list(1, 2, 3), 2, true},
		{list(1, 2, 3), 3, true},
		{list(1, 2, 3), 4, false},
		{list(3, 3, 3), 3, true},
	} {
		if got := Has(c.l, c.k); got != c.want {
			t.Errorf("%d, %d: %t", c.l, c.k, got)
		}
	}
}

// P7.1: Without takes all that are the key, and leaves the others in their turn.
func TestWithout(t *testing.T) {
	for _, c := range []struct {
		l    []uint64
		k    uint64
		want []uint64
	}{
		{nil, 0, nil},
		{list(), 1, nil},
		{list(0), 0, nil},
		{list(0), 1, list(0)},
		{list(greatest), greatest, nil},
		{list(greatest, 0), 0, list(greatest)},
		{list(0, greatest), greatest, list(0)},
		{list(3, 1, 2), 3, list(1, 2)},
		{list(3, 1, 2), 1, list(3, 2)},
		{list(3, 1, 2), 2, list(3, 1)},
		{list(3, 1, 2), 4, list(3, 1, 2)},
		{list(5, 5, 1, 5, 2, 5, 5), 5, list(1, 2)},
		{list(5, 5, 1, 5, 2, 5, 5), 1, list(5, 5, 5, 2, 5, 5)},
		{list(5, 5, 5), 5, nil},
		{list(1, 1<<32|1, 1<<63|1), 1, list(1<<32|1, 1<<63|1)},
	} {
		if got := Without(c.l, c.k); !slices.Equal(got, c.want) {
			t.Errorf("%d, %d: %d, not %d", c.l, c.k, got, c.want)
		}
	}
}

// P7.1: Front has the key once, at its front, wherever and however often it was there.
func TestFront(t *testing.T) {
	for _, c := range []struct {
		l    []uint64
		k    uint64
		want []uint64
	}{
		{nil, 0, list(0)},
		{list(), greatest, list(greatest)},
		{list(0), 0, list(0)},
		{list(0), greatest, list(greatest, 0)},
		{list(greatest), 0, list(0, greatest)},
		{list(3, 1, 2), 3, list(3, 1, 2)},
		{list(3, 1, 2), 1, list(1, 3, 2)},
		{list(3, 1, 2), 2, list(2, 3, 1)},
		{list(3, 1, 2), 4, list(4, 3, 1, 2)},
		{list(5, 5, 1, 5, 2, 5, 5), 5, list(5, 1, 2)},
		{list(5, 5, 1, 5, 2, 5, 5), 2, list(2, 5, 5, 1, 5, 5, 5)},
		{list(5, 5, 5), 5, list(5)},
	} {
		if got := Front(c.l, c.k); !slices.Equal(got, c.want) {
			t.Errorf("%d, %d: %d, not %d", c.l, c.k, got, c.want)
		}
	}
}

// P7.2: Back of an empty list has nothing, of another one the last key, that may stand ahead too.
func TestBack(t *testing.T) {
	for _, c := range []struct {
		l     []uint64
		k     uint64
		ahead []uint64
		ok    bool
	}{
		{nil, 0, nil, false},
		{list(), 0, nil, false},
		{list(1, 2, 3)[:0], 0, nil, false},
		{list(0), 0, nil, true},
		{list(greatest), greatest, nil, true},
		{list(0, greatest), greatest, list(0), true},
		{list(greatest, 0), 0, list(greatest), true},
		{list(1, 2, 3), 3, list(1, 2), true},
		{list(3, 1, 3, 3), 3, list(3, 1, 3), true},
	} {
		k, ahead, ok := Back(c.l)
		if k != c.k || !slices.Equal(ahead, c.ahead) || ok != c.ok {
			t.Errorf("%d: %d, %d, %t", c.l, k, ahead, ok)
		}
	}
}

// P7.2: Fall, with n below 0, 0, less than there are keys, as many, and more.
func TestFall(t *testing.T) {
	for _, c := range []struct {
		l             []uint64
		n             int
		fallen, stays []uint64
	}{
		{nil, 0, nil, nil},
		{nil, -1, nil, nil},
		{list(), 5, nil, nil},
		{list(), math.MinInt, nil, nil},
		{list(0), 0, list(0), nil},
		{list(0), 1, nil, list(0)},
		{list(greatest), -1, list(greatest), nil},
		{list(greatest), 2, nil, list(greatest)},
		{list(1, 2, 3), math.MinInt, list(3, 2, 1), nil},
		{list(1, 2, 3), -1, list(3, 2, 1), nil},
		{list(1, 2, 3), 0, list(3, 2, 1), nil},
		{list(1, 2, 3), 1, list(3, 2), list(1)},
		{list(1, 2, 3), 2, list(3), list(1, 2)},
		{list(1, 2, 3), 3, nil, list(1, 2, 3)},
		{list(1, 2, 3), 4, nil, list(1, 2, 3)},
		{list(1, 2, 3), math.MaxInt, nil, list(1, 2, 3)},
		{list(4, 0, 4, greatest, 4), 2, list(4, greatest, 4), list(4, 0)},
	} {
		fallen, stays := Fall(c.l, c.n)
		if !slices.Equal(fallen, c.fallen) || !slices.Equal(stays, c.stays) {
			t.Errorf("%d, %d: %d, %d, not %d, %d", c.l, c.n, fallen, stays, c.fallen, c.stays)
		}
	}
}

// P7.3: Apart of no list, of empty ones, and with a key twice: in one list, and in two.
func TestApart(t *testing.T) {
	for _, c := range []struct {
		lists [][]uint64
		want  bool
	}{
		{nil, true},
		{[][]uint64{nil}, true},
		{[][]uint64{nil, list(), nil}, true},
		{[][]uint64{list(0)}, true},
		{[][]uint64{list(0, 0)}, false},
		{[][]uint64{list(greatest, 1, greatest)}, false},
		{[][]uint64{list(1, 2, 2)}, false},
		{[][]uint64{list(2, 2, 1)}, false},
		{[][]uint64{list(1, 2, 3)}, true},
		{[][]uint64{list(0), list(0)}, false},
		{[][]uint64{list(0), list(greatest)}, true},
		{[][]uint64{list(1, 2), list(3, 4), list(5)}, true},
		{[][]uint64{list(1, 2), list(3, 4), list(1)}, false},
		{[][]uint64{list(1, 2), nil, list(3, 2)}, false},
		{[][]uint64{list(1, 2), list(3, 3)}, false},
		{[][]uint64{nil, list(7), nil, list(8), list(7)}, false},
		{[][]uint64{list(0, 1<<32, 1<<63), list(1, 1<<32|1, 1<<63|1)}, true},
	} {
		if got := Apart(c.lists...); got != c.want {
			t.Errorf("%d: %t", c.lists, got)
		}
	}
	if !Apart() {
		t.Error("no list")
	}
	one := list(1, 2)
	if Apart(one, one) || !Apart(one[:1], one[1:]) {
		t.Error("one list, twice, and in two pieces")
	}
}

// P7.1, P7.2: of all short lists, each call is as it is told plainly.
func TestShortLists(t *testing.T) {
	keys := list(0, 1, 2, greatest)
	for _, l := range shortLists(5, keys[:3]...) {
		for _, k := range keys {
			if got := Has(l, k); got != (len(without(l, k)) < len(l)) {
				t.Errorf("Has %d, %d: %t", l, k, got)
			}
			same(t, "Without", Without(l, k), without(l, k))
			same(t, "Front", Front(l, k), append(list(k), without(l, k)...))
		}
		if k, ahead, ok := Back(l); ok != (len(l) > 0) || ok && !slices.Equal(append(ahead, k), l) {
			t.Errorf("Back %d: %d, %d, %t", l, k, ahead, ok)
		}
		for n := -1; n <= len(l)+1; n++ {
			stay := min(max(n, 0), len(l))
			fallen, stays := Fall(l, n)
			same(t, "fallen", fallen, reversed(l[stay:]))
			same(t, "stays", stays, l[:stay])
		}
	}
}

// P7.3: of all pairs of short lists, and of those with a third one between, Apart is as it is told plainly.
func TestShortListsApart(t *testing.T) {
	lists := shortLists(3, 0, 1, 5, greatest)
	for _, a := range lists {
		for _, b := range lists {
			if got := Apart(a, b); got != apart(a, b) {
				t.Errorf("%d, %d: %t", a, b, got)
			}
			if got := Apart(a, list(5), b); got != apart(a, list(5), b) {
				t.Errorf("%d, 5, %d: %t", a, b, got)
			}
		}
	}
}

// P7.4: keys that are apart stay apart, and Front has one more just if the key wasn't there.
func TestApartStays(t *testing.T) {
	for _, l := range shortLists(5, 0, 1, 2, 3, greatest) {
		if !apart(l) {
			continue
		}
		for _, k := range list(0, 2, 4, greatest) {
			front := Front(l, k)
			more := 1
			if Has(l, k) {
				more = 0
			}
			if !Apart(front) || len(front) != len(l)+more || !Has(front, k) {
				t.Errorf("Front %d, %d: %d", l, k, front)
			}
			left := Without(l, k)
			if !Apart(left) || len(left) != len(l)-1+more || Has(left, k) || !Apart(left, list(k)) {
				t.Errorf("Without %d, %d: %d", l, k, left)
			}
		}
		if k, ahead, ok := Back(l); ok && (!Apart(ahead, list(k)) || len(ahead) != len(l)-1) {
			t.Errorf("Back %d: %d, %d", l, k, ahead)
		}
		for n := -1; n <= len(l)+1; n++ {
			if fallen, stays := Fall(l, n); !Apart(fallen, stays) || len(fallen)+len(stays) != len(l) {
				t.Errorf("Fall %d, %d: %d, %d", l, n, fallen, stays)
			}
		}
	}
}

// telling is a call that tells lists, of a list.
type telling struct {
	name string
	call func(l []uint64) [][]uint64
}

// tellings are all calls that tell lists, with keys that are there and that aren't, and all that may fall.
func tellings() []telling {
	var all []telling
	for _, k := range list(0, 1, greatest, 9) {
		all = append(all,
			telling{"Without", func(l []uint64) [][]uint64 { return [][]uint64{Without(l, k)} }},
			telling{"Front", func(l []uint64) [][]uint64 { return [][]uint64{Front(l, k)} }})
	}
	all = append(all, telling{"Back", func(l []uint64) [][]uint64 {
		_, ahead, _ := Back(l)
		return [][]uint64{ahead}
	}})
	for n := -1; n <= 5; n++ {
		all = append(all, telling{"Fall", func(l []uint64) [][]uint64 {
			fallen, stays := Fall(l, n)
			return [][]uint64{fallen, stays}
		}})
	}
	return all
}

// roomy is a list with marks behind it, as whoever hands one in may have others in the room behind its last key.
func roomy(l []uint64) []uint64 {
	marks := list(mark, mark, mark, mark)
	return append(slices.Clone(l), marks...)[:len(l)]
}

// spoil writes a list all over, and the room behind its last key.
func spoil(l []uint64) {
	l = l[:cap(l)]
	for i := range l {
		l[i] = mark
	}
}

// cloned are copies of lists.
func cloned(lists [][]uint64) [][]uint64 {
	var c [][]uint64
	for _, l := range lists {
		c = append(c, slices.Clone(l))
	}
	return c
}

// handedIn are lists that calls are tried with.
func handedIn() [][]uint64 {
	return [][]uint64{nil, list(), list(0), list(greatest), list(0, 1), list(0, 1, greatest, 4), list(1, 0, 1, 0, 1)}
}

// R3: no call writes into a list that was handed in, or into the room behind it.
func TestHandedInStays(t *testing.T) {
	for _, l := range handedIn() {
		in := roomy(l)
		whole := slices.Clone(in[:cap(in)])
		for _, c := range tellings() {
			c.call(in)
			same(t, c.name, in[:cap(in)], whole)
		}
		Has(in, 1)
		same(t, "Has", in[:cap(in)], whole)
		lists := [][]uint64{in, list(7), in[:0]}
		Apart(lists...)
		same(t, "Apart", in[:cap(in)], whole)
		if len(lists) != 3 || len(lists[0]) != len(l) || len(lists[1]) != 1 || lists[1][0] != 7 || len(lists[2]) != 0 {
			t.Errorf("Apart: %d", lists)
		}
	}
}

// R3: what is told shares nothing with what was handed in, and no two lists that are told share anything.
func TestNothingShared(t *testing.T) {
	for _, l := range handedIn() {
		for _, c := range tellings() {
			in := roomy(l)
			told := c.call(in)
			want := cloned(told)
			spoil(in)
			for i := range told {
				same(t, c.name+", behind a write into what was handed in", told[i], want[i])
			}
			for i := range told {
				again := roomy(l)
				lists := c.call(again)
				whole := slices.Clone(again[:cap(again)])
				spoil(lists[i])
				same(t, c.name+", handed in, behind a write into what was told", again[:cap(again)], whole)
				for j := range lists {
					if j != i {
						same(t, c.name+", the other list", lists[j], want[j])
					}
				}
			}
		}
	}
}

// R3, R4: what a call told stays when further calls are made, of it too, and a call tells the same once more.
func TestToldStays(t *testing.T) {
	for _, l := range handedIn() {
		for _, first := range tellings() {
			told := first.call(l)
			want := cloned(told)
			for _, next := range tellings() {
				for i := range told {
					next.call(told[i])
				}
				next.call(l)
				for i := range told {
					same(t, first.name+", then "+next.name, told[i], want[i])
				}
			}
			for i, again := range first.call(l) {
				same(t, first.name+", once more", again, want[i])
			}
		}
	}
}

// R2: nil and empty are the same.
func TestNilIsEmpty(t *testing.T) {
	for _, c := range tellings() {
		of, other := c.call(nil), c.call(list())
		for i := range of {
			same(t, c.name, of[i], other[i])
		}
	}
	if Has(nil, 0) || Has(list(), 0) || !Apart(nil, list()) {
		t.Error("empty ones have keys")
	}
}

// P1: of as many keys as a cache may have, each call ends soon.
func TestLongLists(t *testing.T) {
	const most = 1 << 20
	l := run(1, most)
	if !Has(l, most) || Has(l, 0) || Has(l, most+1) {
		t.Error("Has")
	}
	same(t, "Without", Without(l, most)[:3], list(1, 2, 3))
	if front := Front(l, most); len(front) != most || front[0] != most || front[most-1] != most-1 {
		t.Error("Front of one that is there")
	}
	if front := Front(l, 0); len(front) != most+1 || front[most] != most {
		t.Error("Front of one that isn't")
	}
	if k, ahead, ok := Back(l); k != most || len(ahead) != most-1 || !ok {
		t.Error("Back")
	}
	if fallen, stays := Fall(l, 2); len(fallen) != most-2 || fallen[0] != most || fallen[most-3] != 3 || !slices.Equal(stays, list(1, 2)) {
		t.Error("Fall")
	}
	if !Apart(l) || !Apart(l, list(0)) || Apart(l, list(1)) || Apart(append(slices.Clone(l), most)) {
		t.Error("Apart")
	}
	many := make([][]uint64, most)
	for i := range many {
		many[i] = l[i : i+1]
	}
	if !Apart(many...) || Apart(append(many, list(most))...) {
		t.Error("Apart of many lists")
	}
}

// The document's example.
func TestExample(t *testing.T) {
	fallen, stays := Fall(list(1, 2, 3), 1)
	same(t, "fallen", fallen, list(3, 2))
	same(t, "stays", stays, list(1))
}
