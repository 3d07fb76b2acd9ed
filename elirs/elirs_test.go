package elirs

import (
	"fmt"
	"math"
	"reflect"
	"slices"
	"strconv"
	"strings"
	"testing"

	"hopper/lirs"
)

const greatest = math.MaxUint64

// mark begins the keys that tests use for themselves: no Cache of a test has one of them, but while it is built.
const mark = 0xdead0000

// list writes a list of keys shortly.
func list(keys ...uint64) []uint64 { return keys }

// run is a list of the keys from one on to another one, with both; none, if it is to end right ahead of where it begins.
func run(from, to uint64) []uint64 {
	l := make([]uint64, to+1-from)
	for i := range l {
		l[i] = from + uint64(i)
	}
	return l
}

func backward(l []uint64) []uint64 {
	l = slices.Clone(l)
	slices.Reverse(l)
	return l
}

// key is one that is written out: "m" is the greatest one.
func key(word string) uint64 {
	k, err := strconv.ParseUint(word, 10, 64)
	if err != nil {
		return greatest
	}
	return k
}

// keys are some that are written out.
func keys(text string) []uint64 {
	var l []uint64
	for _, word := range strings.Fields(text) {
		l = append(l, key(word))
	}
	return l
}

// of are items of some keys, all of a kind.
func of(kind int, keys []uint64) []lirs.Item {
	var l []lirs.Item
	for _, k := range keys {
		l = append(l, lirs.Item{Key: k, Kind: kind})
	}
	return l
}

// written is a state that is written out: S and Q, with a bar between; an item is its key, and g, c or h: Gone, Cold or Hot.
func written(c int, text string) lirs.State {
	items, q, _ := strings.Cut(text, "|")
	s := lirs.State{C: c, Q: keys(q)}
	for _, word := range strings.Fields(items) {
		last := len(word) - 1
		s.S = append(s.S, lirs.Item{Key: key(word[:last]), Kind: strings.Index("gch", word[last:])})
	}
	return s
}

// ofKind are the keys of a state's items of a kind.
func ofKind(s lirs.State, kind int) []uint64 {
	var l []uint64
	for _, item := range s.S {
		if item.Kind == kind {
			l = append(l, item.Key)
		}
	}
	return l
}

// alone are the keys of Q that have no item in S.
func alone(s lirs.State) []uint64 {
	inS := map[uint64]bool{}
	for _, item := range s.S {
		inS[item.Key] = true
	}
	var l []uint64
	for _, k := range s.Q {
		if !inS[k] {
			l = append(l, k)
		}
	}
	return l
}

// there are the keys of a state that are there.
func there(s lirs.State) []uint64 { return slices.Concat(ofKind(s, lirs.Hot), s.Q) }

// allKeys are those that are there, or remembered.
func allKeys(s lirs.State) []uint64 { return append(there(s), ofKind(s, lirs.Gone)...) }

// kind is one of the calls that change a Cache.
type kind int

const (
	touch kind = iota
	admit
	drop
	resize
)

// step is such a call, with its key, or its capacity.
type step struct {
	kind kind
	k    uint64
	c    int
}

func toTouch(k uint64) step { return step{kind: touch, k: k} }
func toAdmit(k uint64) step { return step{kind: admit, k: k} }
func toDrop(k uint64) step  { return step{kind: drop, k: k} }
func toResize(c int) step   { return step{kind: resize, c: c} }

func (p step) String() string {
	switch p.kind {
	case touch:
		return "Touch " + strconv.FormatUint(p.k, 10)
	case admit:
		return "Admit " + strconv.FormatUint(p.k, 10)
	case drop:
		return "Drop " + strconv.FormatUint(p.k, 10)
	}
	return "Resize " + strconv.Itoa(p.c)
}

// do takes a step of a Cache.
func (p step) do(x *Cache) []uint64 {
	switch p.kind {
	case touch:
		x.Touch(p.k)
	case admit:
		return x.Admit(p.k)
	case drop:
		x.Drop(p.k)
	case resize:
		return x.Resize(p.c)
	}
	return nil
}

// follow takes it from lirs's state.
func (p step) follow(s lirs.State) (lirs.State, []uint64) {
	switch p.kind {
	case touch:
		return lirs.Touch(s, p.k), nil
	case admit:
		return lirs.Admit(s, p.k)
	case drop:
		return lirs.Drop(s, p.k), nil
	}
	return lirs.Resize(s, p.c)
}

// builder leads a Cache to a state by calls. Its fillers are hot keys that are dropped at last: as long as they leave no room for hot ones, a key that is admitted is Cold.
type builder struct {
	x       *Cache
	next    uint64
	fillers []uint64
}

// some is a key that no test has, admitted.
func (b *builder) some() uint64 {
	b.next++
	b.x.Admit(mark + b.next)
	return mark + b.next
}

func (b *builder) drop(keys []uint64) {
	for _, k := range keys {
		b.x.Drop(k)
	}
}

// hot puts a hot key to the front of S, in a filler's place.
func (b *builder) hot(k uint64) {
	b.drop(b.fillers[:1])
	b.fillers = b.fillers[1:]
	b.x.Admit(k)
}

// cool puts the last hot key of S to the end of Q.
func (b *builder) cool() {
	k := b.some()
	b.x.Touch(k)
	b.fillers = append(b.fillers, k)
}

// evict has the first keys of Q be Gone. As many others are there meanwhile, so that there is a capacity that has just those leave and forgets none.
func (b *builder) evict(gone, c int) {
	var others []uint64
	for range gone {
		others = append(others, b.some())
	}
	b.drop(b.fillers)
	if gone > 0 {
		b.x.Resize(len(b.x.Keys()) - gone)
	}
	b.drop(others)
	b.x.Resize(c)
}

// cache is one of a state, by calls: the keys that are in Q alone are hot ones behind all of S that are cooled when their turn in Q comes; those that are to be Gone are cold till all is laid.
func cache(want lirs.State) *Cache {
	gone, single := len(ofKind(want, lirs.Gone)), alone(want)
	places := max(len(want.Q)+2*gone+1, (len(want.Q)+len(want.S))/99+1)
	b := builder{x: New(100 * places)}
	for _, k := range single {
		b.x.Admit(k)
	}
	for range 99*places - len(single) {
		b.fillers = append(b.fillers, b.some())
	}
	q := want.Q
	for _, item := range slices.Backward(want.S) {
		for item.Kind == lirs.Cold && q[0] != item.Key {
			b.cool()
			q = q[1:]
		}
		switch item.Kind {
		case lirs.Hot:
			b.hot(item.Key)
		case lirs.Cold:
			q = q[1:]
			fallthrough
		case lirs.Gone:
			b.x.Admit(item.Key)
		}
	}
	for range q {
		b.cool()
	}
	b.evict(gone, want.C)
	return b.x
}

func same(t *testing.T, what string, got, want []uint64) {
	t.Helper()
	if !slices.Equal(got, want) {
		t.Errorf("%s: %d, not %d", what, got, want)
	}
}

func equal(s, r lirs.State) bool {
	return s.C == r.C && slices.Equal(s.S, r.S) && slices.Equal(s.Q, r.Q)
}

// has holds what a Cache tells of itself against a state, written out.
func has(t *testing.T, what string, x *Cache, s lirs.State) {
	t.Helper()
	if got := x.State(); !equal(got, s) {
		t.Errorf("%s, State: %d, not %d", what, got, s)
	}
	same(t, what+", Keys", x.Keys(), there(s))
	if g, want := x.Ghosts(), len(ofKind(s, lirs.Gone)); g != want {
		t.Errorf("%s, Ghosts: %d, not %d", what, g, want)
	}
	isThere := map[uint64]bool{}
	for _, k := range there(s) {
		isThere[k] = true
	}
	for _, k := range append(allKeys(s), 0, 1, 2, 9, 1<<32, greatest, mark+1) {
		if x.Has(k) != isThere[k] {
			t.Errorf("%s, Has %d: %t", what, k, x.Has(k))
		}
	}
}

// change is what a step makes of a state, written out.
type change struct {
	from    lirs.State
	p       step
	to      lirs.State
	evicted []uint64
}

// hold holds a change against what a Cache makes of the state, and lirs.
func (c change) hold(t *testing.T) {
	t.Helper()
	what := fmt.Sprintf("%v of %d", c.p, c.from)
	x := cache(c.from)
	has(t, "ahead of "+what, x, c.from)
	same(t, what+", evicted", c.p.do(x), c.evicted)
	has(t, what, x, c.to)
	s, evicted := c.p.follow(c.from)
	if !equal(s, c.to) || !slices.Equal(evicted, c.evicted) {
		t.Errorf("lirs, %s: %d, and %d", what, s, evicted)
	}
}

// A trial is a call's: of a state of a capacity, with a key, what it leads to, and what is evicted.
type trial struct {
	c       int
	ahead   string
	k       uint64
	behind  string
	evicted string
}

// try tries calls of one kind.
func try(t *testing.T, to func(k uint64) step, all []trial) {
	t.Helper()
	for _, x := range all {
		change{written(x.c, x.ahead), to(x.k), written(x.c, x.behind), keys(x.evicted)}.hold(t)
	}
}

// P18.1: New, of capacities below 1, 1, 2, 3, the greatest one, and above it.
func TestNew(t *testing.T) {
	for _, c := range []struct{ c, want int }{
		{math.MinInt, 1}, {math.MinInt32, 1}, {-1, 1}, {0, 1}, {1, 1}, {2, 2}, {3, 3}, {99, 99}, {100, 100}, {200, 200},
		{1048575, 1048575}, {1048576, 1048576}, {1048577, 1048576}, {1 << 32, 1048576}, {math.MaxInt, 1048576},
	} {
		has(t, "New", New(c.c), lirs.State{C: c.want})
		if s := lirs.New(c.c); s.C != c.want {
			t.Errorf("lirs.New of %d: %d", c.c, s)
		}
	}
}

// P18.1: Touch of a key that is Hot (in front, in between, behind): it goes to the front, and what was ahead of it, if it was the last one, is pruned.
func TestTouchHot(t *testing.T) {
	try(t, toTouch, []trial{
		{2, "1h|", 1, "1h|", ""},
		{3, "1h 2c 3h|2", 1, "1h 2c 3h|2", ""},
		{4, "1h 2h 3h|", 2, "2h 1h 3h|", ""},
		{4, "0c mh 3g 2h|0", greatest, "mh 0c 3g 2h|0", ""},
		{3, "1h 2h|", 2, "2h 1h|", ""},
		{2, "2c 1h|2", 1, "1h|2", ""},
		{3, "3g 2g 1h|", 1, "1h|", ""},
		{3, "1h 2c 3g 4h|2", 4, "4h 1h|2", ""},
		{7, "1h 2c 5h 3c 4g 0h|6 3 7 2", 0, "0h 1h 2c 5h|6 3 7 2", ""},
		{5, "1c 2g mh|1 3", greatest, "mh|1 3", ""},
	})
}

// P18.1: Touch of a key in Q with an item in S: it is Hot then, and another one is cooled, if there is no room for both.
func TestTouchCold(t *testing.T) {
	try(t, toTouch, []trial{
		{3, "2c 1h|2", 2, "2h 1h|", ""},
		{4, "mc 1h|3 m", greatest, "mh 1h|3", ""},
		{4, "3c 1h 2c 0h|2 3", 2, "2h 3c 1h 0h|3", ""},
		{5, "3c 1h 2c 0h|2 4 3", 2, "2h 3c 1h 0h|4 3", ""},
		{5, "7c 1h 0c 5g 3h 6g 2h|0 7", 0, "0h 7c 1h 5g 3h 6g 2h|7", ""},
		{2, "2c 1h|2", 2, "2h|1", ""},
		{2, "2c 3g 4g 1h|2", 2, "2h|1", ""},
		{3, "5c 1h 4g 2h|5", 5, "5h 1h|2", ""},
		{3, "1h 5c 4g 2h|5", 5, "5h 1h|2", ""},
		{4, "mc 1h 3g 2h 5g 6g 0h|m", greatest, "mh 1h 3g 2h|0", ""},
	})
}

// P18.1: Touch of a key in Q alone: it is Cold, and the last one to go, even if there is room for a hot one. Without hot ones S stays empty.
func TestTouchAlone(t *testing.T) {
	try(t, toTouch, []trial{
		{5, "1h|2 3 4", 2, "2c 1h|3 4 2", ""},
		{5, "1h|2 3 4", 3, "3c 1h|2 4 3", ""},
		{5, "1h|2 3 4", 4, "4c 1h|2 3 4", ""},
		{2, "1h|0", 0, "0c 1h|0", ""},
		{4, "3c 1h 2g 0h|m 3", greatest, "mc 3c 1h 2g 0h|3 m", ""},
		{4, "3c 1h 2g 0h|3 m", greatest, "mc 3c 1h 2g 0h|3 m", ""},
		{3, "|1 2 3", 1, "|2 3 1", ""},
		{3, "|1 2 3", 2, "|1 3 2", ""},
		{3, "|1 2 3", 3, "|1 2 3", ""},
		{1, "|7", 7, "|7", ""},
		{1, "|m", greatest, "|m", ""},
	})
}

// P18.1: Touch of a key that is Gone, or isn't there, changes nothing.
func TestTouchOthers(t *testing.T) {
	try(t, toTouch, []trial{
		{2, "2g 1h|", 2, "2g 1h|", ""},
		{2, "3c 0g mg 1h|3", 0, "3c 0g mg 1h|3", ""},
		{2, "3c 0g mg 1h|3", greatest, "3c 0g mg 1h|3", ""},
		{2, "3c 2g 1h|3", 0, "3c 2g 1h|3", ""},
		{2, "3c 2g 1h|3", greatest, "3c 2g 1h|3", ""},
		{3, "2g 1h|3", 1<<32 | 1, "2g 1h|3", ""},
		{3, "2g 1h|3", 1 << 63, "2g 1h|3", ""},
		{1, "|1", 0, "|1", ""},
		{4, "|", 0, "|", ""},
		{4, "|", greatest, "|", ""},
	})
}

// P18.1: Drop of a key that is Hot (also the last item of S), Cold with an item in S, in Q alone, Gone, and in none; S is pruned behind it. What is dropped isn't remembered, and makes room.
func TestDrop(t *testing.T) {
	try(t, toDrop, []trial{
		{4, "1h 2c 3g 4h|2", 1, "2c 3g 4h|2", ""},
		{5, "1h 2c 5h 3g 4h|2", 5, "1h 2c 3g 4h|2", ""},
		{4, "1h 2c 3g 4h|2", 4, "1h|2", ""},
		{5, "0h 2c mh 3g 4h|2", 4, "0h 2c mh|2", ""},
		{3, "1h 2h|", 2, "1h|", ""},
		{3, "2c 3g 1h|4 2", 1, "|4 2", ""},
		{2, "0h|", 0, "|", ""},
		{2, "mh|", greatest, "|", ""},
		{4, "1h 2c 3g 4h|2", 2, "1h 3g 4h|", ""},
		{6, "0c 1h 2c 4h|2 5 0", 2, "0c 1h 4h|5 0", ""},
		{6, "0c 1h 2c 4h|2 5 0", 0, "1h 2c 4h|2 5", ""},
		{4, "1h 2c 3g mg 4h|2", 3, "1h 2c mg 4h|2", ""},
		{4, "1h 2c 3g mg 4h|2", greatest, "1h 2c 3g 4h|2", ""},
		{4, "1h|2 3 m", 2, "1h|3 m", ""},
		{4, "1h|2 3 m", 3, "1h|2 m", ""},
		{4, "1h|2 3 m", greatest, "1h|2 3", ""},
		{1, "|5", 5, "|", ""},
		{4, "1h 2c 3g 4h|2", 0, "1h 2c 3g 4h|2", ""},
		{4, "1h 2c 3g 4h|2", greatest, "1h 2c 3g 4h|2", ""},
		{4, "1h 2c 3g 4h|2", 1<<32 | 1, "1h 2c 3g 4h|2", ""},
		{4, "|", 0, "|", ""},
	})
	s := written(6, "0c 1h 2c 3g 4h|2 5 0")
	for _, k := range allKeys(s) {
		x := cache(s)
		x.Drop(k)
		once := x.State()
		for range 2 {
			x.Drop(k)
			x.Touch(k)
		}
		has(t, fmt.Sprint("Drop once more, and a Touch, of ", k), x, once)
	}
	x := cache(written(3, "2h 4c 3g 1h|4"))
	x.Drop(4)
	same(t, "Admit behind a Drop, evicted", x.Admit(9), nil)
	has(t, "Admit behind a Drop", x, written(3, "9c 2h 3g 1h|9"))
}

// P18.1: Admit of a key that is there changes nothing, with room and without.
func TestAdmitThere(t *testing.T) {
	try(t, toAdmit, []trial{
		{2, "3c 2g 1h|3", 1, "3c 2g 1h|3", ""},
		{2, "3c 2g 1h|3", 3, "3c 2g 1h|3", ""},
		{3, "1h 2c 3g 4h|2", 4, "1h 2c 3g 4h|2", ""},
		{4, "2g 0h|3 m", 0, "2g 0h|3 m", ""},
		{4, "2g 0h|3 m", greatest, "2g 0h|3 m", ""},
		{4, "2g 0h|3 m", 3, "2g 0h|3 m", ""},
		{1, "|1", 1, "|1", ""},
		{3, "|1 0 2", 0, "|1 0 2", ""},
	})
}

// P18.1: Admit of a key that is nowhere, with room for a hot one, and without, with less keys than the capacity, and with as many.
func TestAdmitNowhere(t *testing.T) {
	try(t, toAdmit, []trial{
		{2, "|", 0, "0h|", ""},
		{1048576, "|", greatest, "mh|", ""},
		{3, "1h|", 2, "2h 1h|", ""},
		{5, "3c 2g 1h|4 3", 5, "5h 3c 2g 1h|4 3", ""},
		{3, "1h|2 3", 4, "4h 1h|3", "2"},
		{3, "3c 2c 1h|2 3", 4, "4h 3c 2g 1h|3", "2"},
		{2, "|1 2", 3, "3h|2", "1"},
		{2, "1h|", 2, "2c 1h|2", ""},
		{3, "2h 4g 1h|", greatest, "mc 2h 4g 1h|m", ""},
		{2, "2c 1h|2", 3, "3c 2g 1h|3", "2"},
		{2, "1h|2", 3, "3c 1h|3", "2"},
		{3, "2h 3c 4g 1h|3", 0, "0c 2h 3g 4g 1h|0", "3"},
		{3, "2h 3c 4g 1h|3", 1<<32 | 4, "4294967300c 2h 3g 4g 1h|4294967300", "3"},
		{1, "|", 0, "|0", ""},
		{1, "|0", greatest, "|m", "0"},
		{1, "|m", 0, "|0", "m"},
	})
}

// P18.1: Admit of a key that is Gone: it is Hot, and another one is cooled, if there is no room for both; pruning takes none but that one, one more, and many.
func TestAdmitGone(t *testing.T) {
	try(t, toAdmit, []trial{
		{3, "2g 1h|", 2, "2h 1h|", ""},
		{4, "3c 2g mg 0h|3", greatest, "mh 3c 2g 0h|3", ""},
		{3, "2g 1h|3 4", 2, "2h 1h|4", "3"},
		{4, "4c 3c 2g 1h|3 5 4", 2, "2h 4c 3g 1h|5 4", "3"},
		{2, "2g 1h|", 2, "2h|1", ""},
		{3, "3g 2h 4g 1h|", 3, "3h 2h|1", ""},
		{3, "3g 2h 4g 1h|", 4, "4h 3g 2h|1", ""},
		{2, "3c 2g 1h|3", 2, "2h|1", "3"},
		{3, "4c 3g 2h 1h|4", 3, "3h 4g 2h|1", "4"},
		{3, "2h 4c 0g 1h|4", 0, "0h 2h|1", "4"},
		{3, "2h 3g 1h|4", 3, "3h 2h|1", "4"},
		{4, "2h 5h 3c 6g mg 7g 1h|3", 7, "7h 2h 5h|1", "3"},
	})
}

// P18.1: the first key of Q that is evicted is Gone just if S has its item; else it isn't remembered.
func TestEvictedIsGone(t *testing.T) {
	try(t, toAdmit, []trial{
		{3, "3c 1h|3 2", 4, "4h 3g 1h|2", "3"},
		{3, "3c 1h|2 3", 4, "4h 3c 1h|3", "2"},
		{2, "mc 0h|m", 1, "1c mg 0h|1", "m"},
		{2, "mh|0", 1, "1c mh|1", "0"},
	})
}

// P18.1: of more items that are Gone than the capacity the last ones are forgotten, but at last only: one that comes again is none of them any more, and those that are pruned are none either.
func TestForgotten(t *testing.T) {
	try(t, toAdmit, []trial{
		{2, "4c 3g 1h|4", 5, "5c 4g 3g 1h|5", "4"},
		{2, "4c 3g 2g 1h|4", 5, "5c 4g 3g 1h|5", "4"},
		{3, "5c 4g 2h 3g mg 1h|5", 0, "0c 5g 4g 2h 3g 1h|0", "5"},
		{3, "6c 5g 4g 3g 2h 1h|6", 7, "7c 6g 5g 4g 2h 1h|7", "6"},
		{3, "6c 5g 4g 3g 2h 1h|6", 4, "4h 6g 5g 3g 2h|1", "6"},
		{3, "6c 5g 4g 3g 2h 1h|6", 3, "3h 6g 5g 4g 2h|1", "6"},
		{3, "6c 5h 4g 3g 2g 1h|6", 3, "3h 6g 5h|1", "6"},
		{2, "4c 3g 2g 1h|4", 2, "2h|1", "4"},
		{4, "5c 1h|6 7 5", 2, "2h 5c 1h|7 5", "6"},
	})
}

// A sizing is a Resize: of a state, to a capacity, what it leads to, and what is evicted.
type sizing struct {
	c       int
	ahead   string
	to, is  int
	behind  string
	evicted string
}

func size(t *testing.T, all []sizing) {
	t.Helper()
	for _, x := range all {
		change{written(x.c, x.ahead), toResize(x.to), written(x.is, x.behind), keys(x.evicted)}.hold(t)
	}
}

// P18.1, P6: Resize to more, and to the same, changes nothing but the capacity.
func TestResizeToMore(t *testing.T) {
	const full = "1h 2c 3h 4g 0h mh|2"
	size(t, []sizing{
		{5, full, 5, 5, full, ""},
		{5, full, 6, 6, full, ""},
		{5, full, 200, 200, full, ""},
		{5, full, 1048576, 1048576, full, ""},
		{5, full, 1048577, 1048576, full, ""},
		{5, full, math.MaxInt, 1048576, full, ""},
		{1, "|1", 2, 2, "|1", ""},
		{1, "|1", 1, 1, "|1", ""},
		{3, "|", 9, 9, "|", ""},
	})
}

// P18.1, P6: Resize to less, to 1, and below 1: hot ones are cooled, and go behind what was in Q; the first ones of Q are evicted, just as many as there are too many; S is pruned.
func TestResizeToLess(t *testing.T) {
	const full = "1h 2c 3h 4g 0h mh|2"
	size(t, []sizing{
		{5, full, 4, 4, "1h 2g 3h 4g 0h|m", "2"},
		{5, full, 3, 3, "1h 2g 3h|0", "2 m"},
		{5, full, 2, 2, "1h|3", "2 m 0"},
		{5, full, 1, 1, "|1", "2 m 0 3"},
		{5, full, 0, 1, "|1", "2 m 0 3"},
		{5, full, -1, 1, "|1", "2 m 0 3"},
		{5, full, math.MinInt, 1, "|1", "2 m 0 3"},
		{9, full, 5, 5, full, ""},
		{9, "1h 2h 3h 4h|", 4, 4, "1h 2h 3h|4", ""},
		{9, "1h 2h 4g 3h|", 3, 3, "1h 2h|3", ""},
		{9, "2c 1h|3 4 2", 4, 4, "2c 1h|3 4 2", ""},
		{9, "2c 1h|3 4 2", 3, 3, "2c 1h|4 2", "3"},
		{9, "2c 1h|3 4 2", 2, 2, "2c 1h|2", "3 4"},
		{9, "2c 1h|3 4 2", 1, 1, "|1", "3 4 2"},
		{9, "4c 2c 1h|2 3 4", 2, 2, "4c 2g 1h|4", "2 3"},
		{9, "0h|", 1, 1, "|0", ""},
		{9, "|1 2 3 0", 2, 2, "|3 0", "1 2"},
		{9, "|1 2 3 0", 1, 1, "|0", "1 2 3"},
		{9, "|", 1, 1, "|", ""},
	})
}

// P18.1: Resize forgets: of what is Gone behind all that, the last ones.
func TestResizeForgets(t *testing.T) {
	size(t, []sizing{
		{5, "3g 4g 5g 6g 7g 1h|", 5, 5, "3g 4g 5g 6g 7g 1h|", ""},
		{5, "3g 4g 5g 6g 7g 1h|", 4, 4, "3g 4g 5g 6g 1h|", ""},
		{5, "3g 4g 5g 6g 7g 1h|", 2, 2, "3g 4g 1h|", ""},
		{5, "3g 4g 5g 6g 7g 1h|", 1, 1, "|1", ""},
		{5, "2c 0c 3g 1h 4g mh|0 2", 3, 3, "2c 0g 3g 1h 4g mh|2", "0"},
		{5, "2c 0c 3g 1h 4g 5g mh|0 2", 3, 3, "2c 0g 3g 1h 4g mh|2", "0"},
		{5, "2c 0c 3g 1h 4g 5g mh|0 2", 2, 2, "2g 0g 1h|m", "0 2"},
		{9, "2h 5c 6c 7c 0c 8g 9g mg 1h|0 7 4 6 5", 4, 4, "2h 5c 6c 7g 0g 8g 9g 1h|6 5", "0 7 4"},
		{9, "2h 5c 6c 7c 0c 8g 9g mg 1h|0 7 4 6 5", 3, 3, "2h 5c 6g 7g 0g 1h|5", "0 7 4 6"},
		{9, "5c 6c 2h 7c 0c 1h 8g 9g mh|4 0 7 6 5", 3, 3, "5g 6g 2h 7g 1h|m", "4 0 7 6 5"},
	})
	x := cache(written(5, "2c 0c 3g 1h 4g 5g mh|0 2"))
	same(t, "Resize to less, evicted", x.Resize(2), list(0, 2))
	same(t, "Resize to more again, evicted", x.Resize(5), nil)
	has(t, "Resize to more again", x, written(5, "2g 0g 1h|m"))
	same(t, "Admit behind it, evicted", x.Admit(3), nil)
	has(t, "Admit behind it", x, written(5, "3h 2g 0g 1h|m"))
	same(t, "Admit of one that is Gone, evicted", x.Admit(0), nil)
	has(t, "Admit of one that is Gone", x, written(5, "0h 3h 2g 1h|m"))
}

// roomsOf are capacities with the room for hot ones that they have.
func roomsOf() [][2]int {
	return [][2]int{{1, 0}, {2, 1}, {3, 2}, {4, 3}, {99, 98}, {100, 99}, {101, 100}, {199, 198}, {200, 198}, {201, 199}, {299, 297}, {300, 297}, {399, 396}, {400, 396}}
}

// P18.1: keys that come first are Hot as long as there is room for hot ones; further ones are Cold as long as there is room for keys, and then they evict each other. The capacity 1, and those from 100 and 200 on, too.
func TestRoomForHotOnes(t *testing.T) {
	for _, c := range roomsOf() {
		x, room := New(c[0]), c[1]
		for k := range uint64(c[0]) {
			same(t, "Admit, evicted", x.Admit(k+1), nil)
		}
		hot, cold := run(1, uint64(room)), run(uint64(room)+1, uint64(c[0]))
		want := lirs.State{C: c[0], Q: cold}
		if room > 0 {
			want.S = slices.Concat(of(lirs.Cold, backward(cold)), of(lirs.Hot, backward(hot)))
		}
		has(t, fmt.Sprint("filled ", c), x, want)
		same(t, fmt.Sprint("evicted of ", c), x.Admit(0), cold[:1])
		same(t, fmt.Sprint("keys of ", c), x.Keys(), slices.Concat(backward(hot), cold[1:], list(0)))
	}
}

// wide is a state of a capacity that has room for more than one cold key: 900, which is in Q alone, and others that come behind it; and all hot ones that there may be, from 1 on.
func wide(c, room int, cold ...uint64) lirs.State {
	return lirs.State{C: c, S: append(of(lirs.Cold, backward(cold)), of(lirs.Hot, run(1, uint64(room)))...), Q: append(list(900), cold...)}
}

// P18.1: where there is room for several cold keys, one that is cooled goes behind all others of Q.
func TestCooledIsLast(t *testing.T) {
	s := wide(200, 198, 901)
	hot := of(lirs.Hot, run(1, 197))
	for _, c := range []change{
		{s, toTouch(901), lirs.State{C: 200, S: append(of(lirs.Hot, list(901)), hot...), Q: list(900, 198)}, nil},
		{s, toTouch(900), lirs.State{C: 200, S: append(of(lirs.Cold, list(900)), s.S...), Q: list(901, 900)}, nil},
		{s, toAdmit(905), lirs.State{C: 200, S: append(of(lirs.Cold, list(905)), s.S...), Q: list(901, 905)}, list(900)},
		{wide(300, 297, 901, 902), toTouch(901), lirs.State{C: 300, S: slices.Concat(of(lirs.Hot, list(901)), of(lirs.Cold, list(902)), of(lirs.Hot, run(1, 296))), Q: list(900, 902, 297)}, nil},
	} {
		c.hold(t)
	}
	play(t, s, []act{
		{toAdmit(905), "900", lirs.State{C: 200, S: append(of(lirs.Cold, list(905)), s.S...), Q: list(901, 905)}},
		{toAdmit(906), "901", lirs.State{C: 200, S: slices.Concat(of(lirs.Cold, list(906, 905)), of(lirs.Gone, list(901)), s.S[1:]), Q: list(905, 906)}},
		{toAdmit(901), "905", lirs.State{C: 200, S: slices.Concat(of(lirs.Hot, list(901)), of(lirs.Cold, list(906)), of(lirs.Gone, list(905)), hot), Q: list(906, 198)}},
		{toTouch(198), "", lirs.State{C: 200, S: slices.Concat(of(lirs.Cold, list(198)), of(lirs.Hot, list(901)), of(lirs.Cold, list(906)), of(lirs.Gone, list(905)), hot), Q: list(906, 198)}},
	})
}

// P18.1: where the new capacity has room for several cold keys, those that a Resize cools, one and more, aren't evicted with the others.
func TestResizeToMany(t *testing.T) {
	all := of(lirs.Hot, run(1, 390))
	gone := of(lirs.Gone, list(901))
	few := func(n int) []lirs.Item { return slices.Concat(gone, all[:n]) }
	x := cache(lirs.State{C: 400, S: slices.Concat(of(lirs.Cold, list(901)), all), Q: list(902, 901)})
	same(t, "Resize to 390, evicted", x.Resize(390), list(902, 901))
	has(t, "Resize to 390", x, lirs.State{C: 390, S: few(387), Q: list(390, 389, 388)})
	same(t, "Resize to 299, evicted", x.Resize(299), backward(run(300, 390)))
	has(t, "Resize to 299", x, lirs.State{C: 299, S: few(297), Q: list(299, 298)})
	same(t, "Resize to 200, evicted", x.Resize(200), backward(run(201, 299)))
	has(t, "Resize to 200", x, lirs.State{C: 200, S: few(198), Q: list(200, 199)})
	same(t, "Resize to 199, evicted", x.Resize(199), list(200))
	has(t, "Resize to 199", x, lirs.State{C: 199, S: few(198), Q: list(199)})
	same(t, "Resize to 100, evicted", x.Resize(100), backward(run(101, 199)))
	has(t, "Resize to 100", x, lirs.State{C: 100, S: few(99), Q: list(100)})
}

// act is a step of a script that is written out, and what is evicted, and the state, behind it.
type act struct {
	p       step
	evicted string
	to      lirs.State
}

// play holds a Cache of a state against a script, and lirs.
func play(t *testing.T, s lirs.State, acts []act) {
	t.Helper()
	x := cache(s)
	has(t, "ahead", x, s)
	for _, a := range acts {
		same(t, a.p.String()+", evicted", a.p.do(x), keys(a.evicted))
		has(t, a.p.String(), x, a.to)
		if s, _ = a.p.follow(s); !equal(s, a.to) {
			t.Errorf("lirs, %v: %d", a.p, s)
		}
	}
}

// P18.1: a key that is admitted again behind its eviction, by an Admit or a Resize: as a hot one, if it had an item in S, and else as a new one.
func TestAdmittedAgainBehindItsEviction(t *testing.T) {
	play(t, lirs.State{C: 3}, []act{
		{toAdmit(0), "", written(3, "0h|")},
		{toAdmit(greatest), "", written(3, "mh 0h|")},
		{toAdmit(1), "", written(3, "1c mh 0h|1")},
		{toAdmit(2), "1", written(3, "2c 1g mh 0h|2")},
		{toAdmit(1), "2", written(3, "1h 2g mh|0")},
		{toAdmit(2), "0", written(3, "2h 1h|m")},
		{toAdmit(0), "m", written(3, "0c 2h 1h|0")},
		{toAdmit(greatest), "0", written(3, "mc 0g 2h 1h|m")},
		{toAdmit(0), "m", written(3, "0h mg 2h|1")},
		{toAdmit(greatest), "1", written(3, "mh 0h|2")},
	})
	play(t, written(5, "3c 2h 0c 1h|0 4 3"), []act{
		{toResize(3), "0 4", written(3, "3c 2h 0g 1h|3")},
		{toAdmit(4), "3", written(3, "4c 3g 2h 0g 1h|4")},
		{toAdmit(0), "4", written(3, "0h 4g 3g 2h|1")},
		{toResize(9), "", written(9, "0h 4g 3g 2h|1")},
		{toAdmit(3), "", written(9, "3h 0h 4g 2h|1")},
	})
}

// P18.1: a key that is admitted again behind its being forgotten, as too many were Gone, or as S was pruned, by a Touch, an Admit, a Drop or a Resize, comes as a new one; so does one that differs from what is remembered in its upper bits alone.
func TestAdmittedAgainBehindItsForgetting(t *testing.T) {
	play(t, written(2, "4c 3g 0g 1h|4"), []act{
		{toAdmit(5), "4", written(2, "5c 4g 3g 1h|5")},
		{toAdmit(0), "5", written(2, "0c 5g 4g 1h|0")},
		{toAdmit(1<<32 | 5), "0", written(2, "4294967301c 0g 5g 1h|4294967301")},
		{toAdmit(5), "4294967301", written(2, "5h|1")},
		{toAdmit(0), "1", written(2, "0c 5h|0")},
		{toAdmit(1<<32 | 5), "0", written(2, "4294967301c 0g 5h|4294967301")},
	})
	play(t, written(3, "1h 2c 3g mg 4h|2"), []act{
		{toTouch(4), "", written(3, "4h 1h|2")},
		{toAdmit(greatest), "2", written(3, "mc 4h 1h|m")},
		{toAdmit(3), "m", written(3, "3c mg 4h 1h|3")},
		{toDrop(1), "", written(3, "3c mg 4h|3")},
		{toDrop(4), "", written(3, "|3")},
		{toAdmit(greatest), "", written(3, "mh|3")},
	})
	play(t, written(4, "5c 6g 7g 8g 1h|5"), []act{
		{toResize(2), "", written(2, "5c 6g 7g 1h|5")},
		{toAdmit(8), "5", written(2, "8c 5g 6g 1h|8")},
		{toResize(1), "8", written(1, "|1")},
		{toResize(4), "", written(4, "|1")},
		{toAdmit(6), "", written(4, "6h|1")},
		{toAdmit(5), "", written(4, "5h 6h|1")},
		{toAdmit(8), "", written(4, "8h 5h 6h|1")},
		{toAdmit(7), "1", written(4, "7c 8h 5h 6h|7")},
	})
}

// P18.1: a key that is admitted again behind its Drop, Hot, Cold, in Q alone, or Gone, comes as a new one.
func TestAdmittedAgainBehindItsDrop(t *testing.T) {
	play(t, written(4, "0c 2h 3g mg 1h|4 0"), []act{
		{toDrop(greatest), "", written(4, "0c 2h 3g 1h|4 0")},
		{toTouch(greatest), "", written(4, "0c 2h 3g 1h|4 0")},
		{toAdmit(greatest), "4", written(4, "mh 0c 2h 3g 1h|0")},
		{toDrop(3), "", written(4, "mh 0c 2h 1h|0")},
		{toAdmit(3), "0", written(4, "3c mh 0g 2h 1h|3")},
		{toDrop(3), "", written(4, "mh 0g 2h 1h|")},
		{toAdmit(3), "", written(4, "3c mh 0g 2h 1h|3")},
		{toDrop(1), "", written(4, "3c mh 0g 2h|3")},
		{toAdmit(1), "", written(4, "1h 3c mh 0g 2h|3")},
		{toAdmit(0), "3", written(4, "0h 1h 3g mh|2")},
		{toDrop(2), "", written(4, "0h 1h 3g mh|")},
		{toTouch(2), "", written(4, "0h 1h 3g mh|")},
		{toAdmit(2), "", written(4, "2c 0h 1h 3g mh|2")},
	})
}

// P18.2: a nil Cache does nothing, and tells nothing, whatever is handed in.
func TestNilCache(t *testing.T) {
	var x *Cache
	for range 2 {
		for _, p := range triedSteps(list(0, 1, 2, 1<<32, greatest)) {
			same(t, p.String(), p.do(x), nil)
			has(t, p.String(), x, lirs.State{})
			if nodes, keys := x.Rooms(); nodes != 0 || keys != 0 {
				t.Errorf("%v, Rooms: %d, %d", p, nodes, keys)
			}
		}
	}
}

// The chapter's example, and those of chapter 12 and of the whole.
func TestExamples(t *testing.T) {
	play(t, lirs.State{C: 1}, []act{
		{toAdmit(1), "", written(1, "|1")},
		{toAdmit(2), "1", written(1, "|2")},
	})
	play(t, lirs.State{C: 2}, []act{
		{toAdmit(1), "", written(2, "1h|")},
		{toAdmit(2), "", written(2, "2c 1h|2")},
		{toAdmit(3), "2", written(2, "3c 2g 1h|3")},
	})
}

// The chapter lists no other calls, and no fields: nobody can lay keys past the policy.
func TestNoOtherCalls(t *testing.T) {
	var names []string
	for m := range reflect.TypeFor[*Cache]().Methods() {
		names = append(names, m.Name)
	}
	want := []string{"Admit", "Drop", "Ghosts", "Has", "Keys", "Resize", "Rooms", "State", "Touch"}
	if !slices.Equal(names, want) {
		t.Errorf("%v", names)
	}
	for _, f := range reflect.VisibleFields(reflect.TypeFor[Cache]()) {
		if f.IsExported() {
			t.Errorf("field %s", f.Name)
		}
	}
}
