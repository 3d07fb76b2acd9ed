package engine

import (
	"errors"
	"fmt"
	"math"
	"reflect"
	"slices"
	"strconv"
	"strings"
	"testing"

	"hopper/api"
	"hopper/config"
	"hopper/machine"
)

const greatest = math.MaxUint64

var five = []int{api.LRU, api.TwoQ, api.S3, api.ARC, api.LIRS}

// eachPolicy runs a test of every policy, all at once, and beside other tests.
func eachPolicy(t *testing.T, test func(t *testing.T, policy int)) {
	t.Parallel()
	for _, policy := range five {
		t.Run([]string{"", "LRU", "TwoQ", "S3", "ARC", "LIRS"}[policy], func(t *testing.T) {
			t.Parallel()
			test(t, policy)
		})
	}
}

// number reads a key, or a value; m is the greatest one.
func number(text string) uint64 {
	if text == "m" {
		return greatest
	}
	n, err := strconv.ParseUint(text, 10, 64)
	if err != nil {
		panic(err)
	}
	return n
}

// whole reads a capacity, or a kind.
func whole(text string) int {
	n, err := strconv.Atoi(text)
	if err != nil {
		panic(err)
	}
	return n
}

// pair reads a key and its value, such as 1=5.
func pair(text string) api.Pair {
	k, v, _ := strings.Cut(text, "=")
	return api.Pair{Key: number(k), Val: number(v)}
}

func pairsOf(text string) []api.Pair {
	var all []api.Pair
	for _, word := range strings.Fields(text) {
		all = append(all, pair(word))
	}
	return all
}

func keysOf(text string) []uint64 {
	var all []uint64
	for _, word := range strings.Fields(text) {
		all = append(all, number(word))
	}
	return all
}

// op reads an operation: g1, p1=5, d1, r3, l, and x9 for one of the kind 9.
func op(text string) api.Op {
	switch rest := text[1:]; text[0] {
	case 'g':
		return api.Op{Kind: api.Get, Key: number(rest)}
	case 'p':
		p := pair(rest)
		return api.Op{Kind: api.Put, Key: p.Key, Val: p.Val}
	case 'd':
		return api.Op{Kind: api.Delete, Key: number(rest)}
	case 'r':
		return api.Op{Kind: api.Resize, N: whole(rest)}
	case 'l':
		return api.Op{Kind: api.Len}
	default:
		return api.Op{Kind: whole(rest)}
	}
}

// opsOf reads a script.
func opsOf(script string) []api.Op {
	var all []api.Op
	for _, word := range strings.Fields(script) {
		all = append(all, op(word))
	}
	return all
}

// others is an operation with something in the fields that are of no use to its kind.
func others(o api.Op, with api.Op) api.Op {
	kind := o.Kind
	if kind != api.Get && kind != api.Put && kind != api.Delete {
		o.Key = with.Key
	}
	if kind != api.Put {
		o.Val = with.Val
	}
	if kind != api.Resize {
		o.N = with.N
	}
	return o
}

// answer reads an answer: hit 5, out 1=5 2=6, n 2, err 1, or nothing.
func answer(text string) api.Answer {
	word, rest, _ := strings.Cut(text, " ")
	switch word {
	case "hit":
		return api.Answer{Hit: true, Val: number(rest)}
	case "out":
		return api.Answer{Out: pairsOf(rest)}
	case "n":
		return api.Answer{N: whole(rest)}
	case "err":
		return api.Answer{Err: api.Errno(whole(rest))}
	}
	return api.Answer{}
}

// some is an Engine that may be.
func some(policy, c int) *Engine {
	e, err := New(policy, c)
	if err != nil || e == nil {
		panic(fmt.Sprint("New of ", policy, " and ", c, ": ", err))
	}
	return e
}

// built is an Engine behind a script.
func built(policy, c int, script []api.Op) *Engine {
	e := some(policy, c)
	for _, o := range script {
		e.Do(o)
	}
	return e
}

// call does an operation by the call that it has for itself, and tells what that tells as an answer. Of the other kinds, for which there is none, it is Do.
func call(e *Engine, o api.Op) (api.Answer, error) {
	var a api.Answer
	var err error
	switch o.Kind {
	case api.Get:
		a.Val, a.Hit = e.Get(o.Key)
	case api.Put:
		a.Out = e.Put(o.Key, o.Val)
	case api.Delete:
		a.Val, a.Hit = e.Delete(o.Key)
	case api.Resize:
		a.Out, err = e.Resize(o.N)
	case api.Len:
		a.N = e.Len()
	default:
		a = e.Do(o)
	}
	return a, err
}

// toldByCall is what such a call tells of an answer: a Put tells nothing of what was there, and a Resize's error is told beside.
func toldByCall(o api.Op, a api.Answer) api.Answer {
	switch o.Kind {
	case api.Put:
		return api.Answer{Out: a.Out}
	case api.Resize:
		a.Err = api.OK
	}
	return a
}

// same holds two things against each other by what they tell when they are printed: nil and empty, of slices, are the same there.
func same(t *testing.T, what string, got, want any) {
	t.Helper()
	if g, w := fmt.Sprintf("%+v", got), fmt.Sprintf("%+v", want); g != w {
		t.Errorf("%s: %s, not %s", what, g, w)
	}
}

// sameError holds an error of Resize against what config tells of it.
func sameError(t *testing.T, what string, err error, policy, n int) {
	t.Helper()
	if want := config.May(policy, n); !reflect.DeepEqual(err, want) {
		t.Errorf("%s, the error: %v, not %v", what, err, want)
	}
}

// has holds what an Engine tells of itself, without changing it, against what is written out.
func has(t *testing.T, what string, e *Engine, c int, keys []uint64, ghosts int, counts api.Counts) {
	t.Helper()
	same(t, what+", Keys", e.Keys(), keys)
	same(t, what+", Ghosts", e.Ghosts(), ghosts)
	same(t, what+", Capacity", e.Capacity(), c)
	same(t, what+", Counts", e.Counts(), counts)
	same(t, what+", Len", e.Len(), len(keys))
}

// values asks an Engine for all that it has, and for some keys that it hasn't; it isn't as it was then.
func values(t *testing.T, what string, e *Engine, pairs []api.Pair) {
	t.Helper()
	there := map[uint64]bool{}
	for _, p := range pairs {
		there[p.Key] = true
		if v, ok := e.Get(p.Key); !ok || v != p.Val {
			t.Errorf("%s, value of %d: %d, %t, not %d", what, p.Key, v, ok, p.Val)
		}
	}
	for _, k := range []uint64{0, 1, 2, 3, 4, 5, 9, 1 << 32, 1<<32 | 1, greatest} {
		if v, ok := e.Get(k); !there[k] && (ok || v != 0) {
			t.Errorf("%s, value of %d: %d, %t", what, k, v, ok)
		}
	}
	same(t, what+", how many", e.Len(), len(pairs))
}

// A trial is of an operation, of the Engine behind a script: what it answers; and of the Engine behind it the keys, how many are remembered, the pairs, in whatever turn, and the counts (hits, misses, evicted).
type trial struct {
	policy, c int
	ahead, op string
	answer    string
	keys      string
	ghosts    int
	pairs     string
	counts    [3]int
}

// behind holds an Engine behind a trial's operation against what the trial tells.
func (x trial) behind(t *testing.T, what string, e *Engine, c int) {
	t.Helper()
	has(t, what, e, c, keysOf(x.keys), x.ghosts, api.Counts{Hits: x.counts[0], Misses: x.counts[1], Evicted: x.counts[2]})
	values(t, what, e, pairsOf(x.pairs))
}

// try tries operations by Do, with something in the other fields, too, and by their own calls; and machine is asked whether it has the same.
func try(t *testing.T, all []trial) {
	t.Helper()
	for _, x := range all {
		script, o, want := opsOf(x.ahead), op(x.op), answer(x.answer)
		c := built(x.policy, x.c, script).Capacity()
		if o.Kind == api.Resize && want.Err == api.OK {
			c = o.N
		}
		for _, with := range []api.Op{{}, {Key: 1, Val: 77, N: 1}, {Key: greatest, Val: greatest, N: math.MaxInt}, {Key: 2, Val: 1, N: -1}} {
			with := others(o, with)
			what := fmt.Sprintf("policy %d, capacity %d, %s, then %+v", x.policy, x.c, x.ahead, with)
			e := built(x.policy, x.c, script)
			same(t, what+", the answer", e.Do(with), want)
			x.behind(t, what, e, c)
		}
		what := fmt.Sprintf("policy %d, capacity %d, %s, then the call of %s", x.policy, x.c, x.ahead, x.op)
		e := built(x.policy, x.c, script)
		a, err := call(e, o)
		same(t, what, a, toldByCall(o, want))
		if o.Kind == api.Resize {
			sameError(t, what, err, x.policy, o.N)
		}
		x.behind(t, what, e, c)
		x.machineToo(t, script, o, want)
	}
}

// machineToo holds a trial against machine.
func (x trial) machineToo(t *testing.T, script []api.Op, o api.Op, want api.Answer) {
	t.Helper()
	s, _ := machine.New(x.policy, x.c)
	for _, o := range script {
		s, _ = machine.Step(s, o)
	}
	s, a := machine.Step(s, o)
	same(t, "machine, the answer", a, want)
	same(t, "machine, the keys", machine.Keys(s), keysOf(x.keys))
	same(t, "machine, the pairs", s.Pairs, pairsOf(x.pairs))
}

// P19.1, P3: what may not be, the policy asked first; there is no Engine beside it.
func TestNewRefuses(t *testing.T) {
	type refused struct {
		policy, c int
		field     string
		n         int
	}
	all := []refused{{0, 0, "policy", 0}, {6, 1048577, "policy", 6}, {-1, -2, "policy", -1}}
	for _, policy := range []int{0, -1, -5, 6, 7, 9, 255, 257, 1<<32 | 1, math.MinInt, math.MaxInt} {
		all = append(all, refused{policy, 1, "policy", policy}, refused{policy, 4, "policy", policy}, refused{policy, 1048576, "policy", policy})
	}
	for _, policy := range five {
		for _, c := range []int{0, -1, -4, 1048577, 1 << 21, 1<<32 | 1, math.MinInt, math.MaxInt} {
			all = append(all, refused{policy, c, "capacity", c})
		}
	}
	for _, x := range all {
		what := fmt.Sprintf("New of %d and %d", x.policy, x.c)
		e, err := New(x.policy, x.c)
		if e != nil {
			t.Errorf("%s: an Engine", what)
		}
		field, n, ok := config.Field(err)
		if err == nil || config.Code(err) != api.ErrConfig || !errors.Is(err, api.ErrConfig) || !ok || field != x.field || n != x.n {
			t.Errorf("%s: %v", what, err)
		}
		sameError(t, what, err, x.policy, x.c)
	}
}

// P19.1: a new Engine has its capacity, and nothing else, and takes a key of whatever capacity.
func TestNew(t *testing.T) {
	for _, policy := range five {
		for _, c := range []int{1, 2, 3, 10, 99, 100, 200, 1048575, 1048576} {
			what := fmt.Sprintf("New of %d and %d", policy, c)
			e, err := New(policy, c)
			if err != nil || e == nil {
				t.Fatalf("%s: %v", what, err)
			}
			s, _ := machine.New(policy, c)
			has(t, what, e, c, nil, 0, api.Counts{})
			same(t, what+", machine's Capacity", machine.Capacity(s), c)
			same(t, what+", a Put", e.Do(op("p0=m")), api.Answer{})
			has(t, what+", a Put", e, c, keysOf("0"), 0, api.Counts{})
			values(t, what, e, pairsOf("0=m"))
		}
	}
}

// Scripts that leave the key 1 evicted, and remembered (but by LRU); of ARC it is the key 2.
const (
	full2Q   = "p1=11 p2=12 p3=13 p4=14 p5=15" // of 4: In 5 4 3 2, Out 1
	main2Q   = full2Q + " p1=21 p2=22"         // In 5 4, Main 2 1, Out 3
	fullS3   = "p1=5 p2=6 p3=7"                // of 2: Small 3 2, Ghost 1
	mainS3   = fullS3 + " p2=16 p2=26 p4=8"    // Small 4, Main 2, Ghost 3
	fullARC  = "p1=5 p2=6 g1 p3=7"             // of 2: T1 3, T2 1, B1 2
	fullLIRS = "p1=5 p2=6 p3=7"                // of 2: S 3 Cold, 2 Gone, 1 Hot, Q 3
)

// P19.1: a Get of a key that is there.
func TestGetThere(t *testing.T) {
	try(t, []trial{
		{api.LRU, 2, "p1=5 p2=6", "g1", "hit 5", "1 2", 0, "1=5 2=6", [3]int{1, 0, 0}},
		{api.LRU, 2, "p1=5 p2=6", "g2", "hit 6", "2 1", 0, "1=5 2=6", [3]int{1, 0, 0}},
		{api.LRU, 2, "p1=5 p2=6 g1", "g1", "hit 5", "1 2", 0, "1=5 2=6", [3]int{2, 0, 0}},
		{api.LRU, 1, "p0=0", "g0", "hit 0", "0", 0, "0=0", [3]int{1, 0, 0}},
		{api.LRU, 1, "pm=m", "gm", "hit m", "m", 0, "m=m", [3]int{1, 0, 0}},
		{api.TwoQ, 4, full2Q, "g2", "hit 12", "5 4 3 2", 1, "2=12 3=13 4=14 5=15", [3]int{1, 0, 1}},
		{api.TwoQ, 4, main2Q, "g1", "hit 21", "5 4 1 2", 1, "4=14 5=15 1=21 2=22", [3]int{1, 0, 3}},
		{api.TwoQ, 1, "p0=m", "g0", "hit m", "0", 0, "0=m", [3]int{1, 0, 0}},
		{api.TwoQ, 1, "pm=0", "gm", "hit 0", "m", 0, "m=0", [3]int{1, 0, 0}},
		{api.S3, 2, fullS3, "g2", "hit 6", "3 2", 1, "2=6 3=7", [3]int{1, 0, 1}},
		{api.S3, 2, mainS3, "g2", "hit 26", "4 2", 1, "2=26 4=8", [3]int{1, 0, 2}},
		{api.S3, 1, "p0=m", "g0", "hit m", "0", 0, "0=m", [3]int{1, 0, 0}},
		{api.S3, 1, "pm=0", "gm", "hit 0", "m", 0, "m=0", [3]int{1, 0, 0}},
		{api.ARC, 2, fullARC, "g3", "hit 7", "3 1", 1, "1=5 3=7", [3]int{2, 0, 1}},
		{api.ARC, 2, fullARC + " g3", "g1", "hit 5", "1 3", 1, "1=5 3=7", [3]int{3, 0, 1}},
		{api.ARC, 1, "p0=m", "g0", "hit m", "0", 0, "0=m", [3]int{1, 0, 0}},
		{api.ARC, 1, "pm=0", "gm", "hit 0", "m", 0, "m=0", [3]int{1, 0, 0}},
		{api.LIRS, 2, fullLIRS, "g3", "hit 7", "3 1", 0, "1=5 3=7", [3]int{1, 0, 1}},
		{api.LIRS, 2, fullLIRS, "g1", "hit 5", "1 3", 0, "1=5 3=7", [3]int{1, 0, 1}},
		{api.LIRS, 1, "p0=m", "g0", "hit m", "0", 0, "0=m", [3]int{1, 0, 0}},
		{api.LIRS, 1, "pm=0", "gm", "hit 0", "m", 0, "m=0", [3]int{1, 0, 0}},
	})
}

// P19.1: a Get of a key that was never put, that was evicted, that is remembered, and that was deleted: nothing is changed but the misses.
func TestGetOthers(t *testing.T) {
	try(t, []trial{
		{api.LRU, 1, "", "g0", "", "", 0, "", [3]int{0, 1, 0}},
		{api.LRU, 2, "p1=5 p2=6 p3=7", "g1", "", "3 2", 0, "2=6 3=7", [3]int{0, 1, 1}},
		{api.LRU, 2, "p1=5 p2=6", "gm", "", "2 1", 0, "1=5 2=6", [3]int{0, 1, 0}},
		{api.LRU, 2, "p1=5 p2=6 d2", "g2", "", "1", 0, "1=5", [3]int{0, 1, 0}},
		{api.LRU, 2, "g1 p1=5", "g4294967297", "", "1", 0, "1=5", [3]int{0, 2, 0}},
		{api.TwoQ, 1, "", "g0", "", "", 0, "", [3]int{0, 1, 0}},
		{api.TwoQ, 4, full2Q, "g1", "", "5 4 3 2", 1, "2=12 3=13 4=14 5=15", [3]int{0, 1, 1}},
		{api.TwoQ, 4, full2Q, "gm", "", "5 4 3 2", 1, "2=12 3=13 4=14 5=15", [3]int{0, 1, 1}},
		{api.TwoQ, 4, full2Q + " d4", "g4", "", "5 3 2", 1, "2=12 3=13 5=15", [3]int{0, 1, 1}},
		{api.S3, 1, "", "g0", "", "", 0, "", [3]int{0, 1, 0}},
		{api.S3, 2, fullS3, "g1", "", "3 2", 1, "2=6 3=7", [3]int{0, 1, 1}},
		{api.S3, 2, fullS3, "gm", "", "3 2", 1, "2=6 3=7", [3]int{0, 1, 1}},
		{api.S3, 2, fullS3 + " d3", "g3", "", "2", 1, "2=6", [3]int{0, 1, 1}},
		{api.ARC, 1, "", "g0", "", "", 0, "", [3]int{0, 1, 0}},
		{api.ARC, 2, fullARC, "g2", "", "3 1", 1, "1=5 3=7", [3]int{1, 1, 1}},
		{api.ARC, 2, fullARC, "gm", "", "3 1", 1, "1=5 3=7", [3]int{1, 1, 1}},
		{api.ARC, 2, fullARC + " d1", "g1", "", "3", 1, "3=7", [3]int{1, 1, 1}},
		{api.LIRS, 1, "", "g0", "", "", 0, "", [3]int{0, 1, 0}},
		{api.LIRS, 2, fullLIRS, "g2", "", "1 3", 1, "1=5 3=7", [3]int{0, 1, 1}},
		{api.LIRS, 2, fullLIRS, "gm", "", "1 3", 1, "1=5 3=7", [3]int{0, 1, 1}},
		{api.LIRS, 2, fullLIRS + " d3", "g3", "", "1", 1, "1=5", [3]int{0, 1, 1}},
	})
}

// P19.1: a Put of a key that is there tells the value that it had, and touches it; its pair stays where it is, and nothing is counted.
func TestPutThere(t *testing.T) {
	try(t, []trial{
		{api.LRU, 2, "p1=5 p2=6", "p1=9", "hit 5", "1 2", 0, "1=9 2=6", [3]int{0, 0, 0}},
		{api.LRU, 2, "p1=5 p2=6", "p2=9", "hit 6", "2 1", 0, "1=5 2=9", [3]int{0, 0, 0}},
		{api.LRU, 2, "p1=5 p2=6", "p1=5", "hit 5", "1 2", 0, "1=5 2=6", [3]int{0, 0, 0}},
		{api.LRU, 3, "p1=5 p2=6 p1=9", "p1=0", "hit 9", "1 2", 0, "1=0 2=6", [3]int{0, 0, 0}},
		{api.LRU, 1, "p0=0", "p0=m", "hit 0", "0", 0, "0=m", [3]int{0, 0, 0}},
		{api.LRU, 1, "pm=m", "pm=0", "hit m", "m", 0, "m=0", [3]int{0, 0, 0}},
		{api.TwoQ, 4, full2Q, "p2=9", "hit 12", "5 4 3 2", 1, "2=9 3=13 4=14 5=15", [3]int{0, 0, 1}},
		{api.TwoQ, 4, main2Q, "p1=9", "hit 21", "5 4 1 2", 1, "4=14 5=15 1=9 2=22", [3]int{0, 0, 3}},
		{api.TwoQ, 1, "p0=0", "p0=m", "hit 0", "0", 0, "0=m", [3]int{0, 0, 0}},
		{api.TwoQ, 1, "pm=m", "pm=0", "hit m", "m", 0, "m=0", [3]int{0, 0, 0}},
		{api.S3, 2, fullS3, "p2=9", "hit 6", "3 2", 1, "2=9 3=7", [3]int{0, 0, 1}},
		{api.S3, 2, mainS3, "p2=9", "hit 26", "4 2", 1, "2=9 4=8", [3]int{0, 0, 2}},
		{api.S3, 1, "p0=0", "p0=m", "hit 0", "0", 0, "0=m", [3]int{0, 0, 0}},
		{api.S3, 1, "pm=m", "pm=0", "hit m", "m", 0, "m=0", [3]int{0, 0, 0}},
		{api.ARC, 2, fullARC, "p3=9", "hit 7", "3 1", 1, "1=5 3=9", [3]int{1, 0, 1}},
		{api.ARC, 2, fullARC + " g3", "p1=9", "hit 5", "1 3", 1, "1=9 3=7", [3]int{2, 0, 1}},
		{api.ARC, 1, "p0=0", "p0=m", "hit 0", "0", 0, "0=m", [3]int{0, 0, 0}},
		{api.ARC, 1, "pm=m", "pm=0", "hit m", "m", 0, "m=0", [3]int{0, 0, 0}},
		{api.LIRS, 2, fullLIRS, "p3=9", "hit 7", "3 1", 0, "1=5 3=9", [3]int{0, 0, 1}},
		{api.LIRS, 2, fullLIRS, "p1=9", "hit 5", "1 3", 0, "1=9 3=7", [3]int{0, 0, 1}},
		{api.LIRS, 1, "p0=0", "p0=m", "hit 0", "0", 0, "0=m", [3]int{0, 0, 0}},
		{api.LIRS, 1, "pm=m", "pm=0", "hit m", "m", 0, "m=0", [3]int{0, 0, 0}},
	})
}

// P19.1: a Put of a new key, where there is room: its pair is the last one, and nothing is counted.
func TestPutWithRoom(t *testing.T) {
	for _, policy := range five {
		try(t, []trial{
			{policy, 1, "", "p0=0", "", "0", 0, "0=0", [3]int{0, 0, 0}},
			{policy, 1, "", "pm=m", "", "m", 0, "m=m", [3]int{0, 0, 0}},
			{policy, 1048576, "", "p7=0", "", "7", 0, "7=0", [3]int{0, 0, 0}},
			{policy, 1, "p7=8 d7", "p9=10", "", "9", 0, "9=10", [3]int{0, 0, 0}},
		})
	}
	try(t, []trial{
		{api.LRU, 3, "p2=5 p1=6", "p0=m", "", "0 1 2", 0, "2=5 1=6 0=m", [3]int{0, 0, 0}},
		{api.TwoQ, 3, "p2=5 p1=6", "p0=m", "", "0 1 2", 0, "2=5 1=6 0=m", [3]int{0, 0, 0}},
		{api.S3, 3, "p2=5 p1=6", "p0=m", "", "0 1 2", 0, "2=5 1=6 0=m", [3]int{0, 0, 0}},
		{api.ARC, 3, "p2=5 p1=6", "p0=m", "", "0 1 2", 0, "2=5 1=6 0=m", [3]int{0, 0, 0}},
		{api.LIRS, 3, "p2=5 p1=6", "p0=m", "", "1 2 0", 0, "2=5 1=6 0=m", [3]int{0, 0, 0}},
	})
}

// P19.1: a Put of a new key, where there is no room: what is evicted, with the value that was put for it last.
func TestPutEvicts(t *testing.T) {
	try(t, []trial{
		{api.LRU, 2, "p1=5 p2=6", "p3=7", "out 1=5", "3 2", 0, "2=6 3=7", [3]int{0, 0, 1}},
		{api.LRU, 2, "p1=5 p2=6 g1", "p3=7", "out 2=6", "3 1", 0, "1=5 3=7", [3]int{1, 0, 1}},
		{api.LRU, 2, "p1=5 p2=6 p1=9", "p3=7", "out 2=6", "3 1", 0, "1=9 3=7", [3]int{0, 0, 1}},
		{api.LRU, 2, "p1=5 p1=9 p2=6", "p3=7", "out 1=9", "3 2", 0, "2=6 3=7", [3]int{0, 0, 1}},
		{api.LRU, 1, "p0=m", "pm=0", "out 0=m", "m", 0, "m=0", [3]int{0, 0, 1}},
		{api.TwoQ, 4, "p1=11 p2=12 p3=13 p4=14", "p5=15", "out 1=11", "5 4 3 2", 1, "2=12 3=13 4=14 5=15", [3]int{0, 0, 1}},
		{api.TwoQ, 4, "p1=11 p2=12 p1=9 p3=13 p4=14", "p5=15", "out 1=9", "5 4 3 2", 1, "2=12 3=13 4=14 5=15", [3]int{0, 0, 1}},
		{api.TwoQ, 1, "p0=m", "pm=0", "out 0=m", "m", 0, "m=0", [3]int{0, 0, 1}},
		{api.S3, 2, "p1=5 p2=6", "p3=7", "out 1=5", "3 2", 1, "2=6 3=7", [3]int{0, 0, 1}},
		{api.S3, 2, fullS3 + " g2 g2", "p4=8", "out 3=7", "4 2", 1, "2=6 4=8", [3]int{2, 0, 2}},
		{api.S3, 2, fullS3 + " p2=16 p2=26", "p4=8", "out 3=7", "4 2", 1, "2=26 4=8", [3]int{0, 0, 2}},
		{api.S3, 1, "p0=m", "pm=0", "out 0=m", "m", 0, "m=0", [3]int{0, 0, 1}},
		{api.ARC, 2, "p1=5 p2=6 g1", "p3=7", "out 2=6", "3 1", 1, "1=5 3=7", [3]int{1, 0, 1}},
		{api.ARC, 2, "p1=5 p2=6 p1=9", "p3=7", "out 2=6", "3 1", 1, "1=9 3=7", [3]int{0, 0, 1}},
		{api.ARC, 2, "p1=5 p2=6", "p3=7", "out 1=5", "3 2", 0, "2=6 3=7", [3]int{0, 0, 1}},
		{api.ARC, 1, "p0=m", "pm=0", "out 0=m", "m", 0, "m=0", [3]int{0, 0, 1}},
		{api.LIRS, 2, "p1=5 p2=6", "p3=7", "out 2=6", "1 3", 1, "1=5 3=7", [3]int{0, 0, 1}},
		{api.LIRS, 2, "p1=5 p2=6 p2=9", "p3=7", "out 1=5", "2 3", 0, "2=9 3=7", [3]int{0, 0, 1}},
		{api.LIRS, 1, "p0=m", "pm=0", "out 0=m", "m", 0, "m=0", [3]int{0, 0, 1}},
	})
}

// P19.1: a Put of a key that was evicted, and that most policies remember, tells no value of it; its pair is the last one.
func TestPutAgain(t *testing.T) {
	try(t, []trial{
		{api.LRU, 2, "p1=5 p2=6 p3=7", "p1=9", "out 2=6", "1 3", 0, "3=7 1=9", [3]int{0, 0, 2}},
		{api.TwoQ, 4, full2Q, "p1=21", "out 2=12", "5 4 3 1", 1, "3=13 4=14 5=15 1=21", [3]int{0, 0, 2}},
		{api.TwoQ, 4, full2Q + " d3", "p1=21", "", "5 4 2 1", 0, "2=12 4=14 5=15 1=21", [3]int{0, 0, 1}},
		{api.S3, 2, fullS3, "p1=8", "out 2=6", "3 1", 1, "3=7 1=8", [3]int{0, 0, 2}},
		{api.S3, 2, fullS3 + " d3", "p1=8", "", "2 1", 0, "2=6 1=8", [3]int{0, 0, 1}},
		{api.ARC, 2, fullARC, "p2=9", "out 1=5", "3 2", 1, "3=7 2=9", [3]int{1, 0, 2}},
		{api.ARC, 2, fullARC + " d1", "p2=9", "", "3 2", 0, "3=7 2=9", [3]int{1, 0, 1}},
		{api.LIRS, 2, fullLIRS, "p2=9", "out 3=7", "2 1", 0, "1=5 2=9", [3]int{0, 0, 2}},
		{api.LIRS, 2, fullLIRS + " d3", "p2=9", "", "2 1", 0, "1=5 2=9", [3]int{0, 0, 1}},
	})
}

// P19.1: a Put behind a Delete: it is a new one, even if it was remembered.
func TestPutBehindDelete(t *testing.T) {
	try(t, []trial{
		{api.LRU, 2, "p1=5 p2=6 d1", "p1=8", "", "1 2", 0, "2=6 1=8", [3]int{0, 0, 0}},
		{api.TwoQ, 4, "p1=11 p2=12 d1", "p1=21", "", "1 2", 0, "2=12 1=21", [3]int{0, 0, 0}},
		{api.TwoQ, 4, full2Q + " d1", "p1=21", "out 2=12", "1 5 4 3", 1, "3=13 4=14 5=15 1=21", [3]int{0, 0, 2}},
		{api.S3, 2, "p1=5 p2=6 d1", "p1=8", "", "1 2", 0, "2=6 1=8", [3]int{0, 0, 0}},
		{api.S3, 2, fullS3 + " d1", "p1=8", "out 2=6", "1 3", 1, "3=7 1=8", [3]int{0, 0, 2}},
		{api.ARC, 2, "p1=5 p2=6 d1", "p1=8", "", "1 2", 0, "2=6 1=8", [3]int{0, 0, 0}},
		{api.ARC, 2, fullARC + " d2", "p2=9", "out 3=7", "2 1", 1, "1=5 2=9", [3]int{1, 0, 2}},
		{api.LIRS, 2, "p1=5 p2=6 d1", "p1=8", "", "1 2", 0, "2=6 1=8", [3]int{0, 0, 0}},
		{api.LIRS, 2, fullLIRS + " d2", "p2=9", "out 3=7", "1 2", 1, "1=5 2=9", [3]int{0, 0, 2}},
	})
}

// P19.1: a Delete of a key that is there, and of one that isn't: one that is remembered is forgotten by it. Nothing is counted.
func TestDelete(t *testing.T) {
	for _, policy := range five {
		try(t, []trial{
			{policy, 1, "", "d0", "", "", 0, "", [3]int{0, 0, 0}},
			{policy, 1, "p0=m", "d0", "hit m", "", 0, "", [3]int{0, 0, 0}},
			{policy, 1, "pm=0", "dm", "hit 0", "", 0, "", [3]int{0, 0, 0}},
			{policy, 1, "p0=m", "dm", "", "0", 0, "0=m", [3]int{0, 0, 0}},
			{policy, 1, "p0=m d0", "d0", "", "", 0, "", [3]int{0, 0, 0}},
		})
	}
	try(t, []trial{
		{api.LRU, 3, "p1=5 p2=6 p3=7", "d1", "hit 5", "3 2", 0, "2=6 3=7", [3]int{0, 0, 0}},
		{api.LRU, 3, "p1=5 p2=6 p3=7", "d2", "hit 6", "3 1", 0, "1=5 3=7", [3]int{0, 0, 0}},
		{api.LRU, 3, "p1=5 p2=6 p3=7", "d3", "hit 7", "2 1", 0, "1=5 2=6", [3]int{0, 0, 0}},
		{api.LRU, 3, "p1=5 p2=6 p3=7 p2=9", "d2", "hit 9", "3 1", 0, "1=5 3=7", [3]int{0, 0, 0}},
		{api.LRU, 2, "p1=5 p2=6 p3=7", "d1", "", "3 2", 0, "2=6 3=7", [3]int{0, 0, 1}},
		{api.TwoQ, 4, full2Q, "d3", "hit 13", "5 4 2", 1, "2=12 4=14 5=15", [3]int{0, 0, 1}},
		{api.TwoQ, 4, main2Q, "d1", "hit 21", "5 4 2", 1, "4=14 5=15 2=22", [3]int{0, 0, 3}},
		{api.TwoQ, 4, full2Q, "d1", "", "5 4 3 2", 0, "2=12 3=13 4=14 5=15", [3]int{0, 0, 1}},
		{api.S3, 2, fullS3, "d2", "hit 6", "3", 1, "3=7", [3]int{0, 0, 1}},
		{api.S3, 2, mainS3, "d2", "hit 26", "4", 1, "4=8", [3]int{0, 0, 2}},
		{api.S3, 2, fullS3, "d1", "", "3 2", 0, "2=6 3=7", [3]int{0, 0, 1}},
		{api.ARC, 2, fullARC, "d3", "hit 7", "1", 1, "1=5", [3]int{1, 0, 1}},
		{api.ARC, 2, fullARC, "d1", "hit 5", "3", 1, "3=7", [3]int{1, 0, 1}},
		{api.ARC, 2, fullARC, "d2", "", "3 1", 0, "1=5 3=7", [3]int{1, 0, 1}},
		{api.LIRS, 2, fullLIRS, "d1", "hit 5", "3", 0, "3=7", [3]int{0, 0, 1}},
		{api.LIRS, 2, fullLIRS, "d3", "hit 7", "1", 1, "1=5", [3]int{0, 0, 1}},
		{api.LIRS, 2, fullLIRS, "d2", "", "1 3", 0, "1=5 3=7", [3]int{0, 0, 1}},
	})
}

// P19.1, P3: a Resize to what may not be changes nothing.
func TestResizeRefused(t *testing.T) {
	for _, n := range []int{0, -1, -4, math.MinInt, 1048577, math.MaxInt} {
		o := "r" + strconv.Itoa(n)
		try(t, []trial{
			{api.LRU, 2, "p1=5 p2=6 p3=7 g9 g2", o, "err 1", "2 3", 0, "2=6 3=7", [3]int{1, 1, 1}},
			{api.TwoQ, 4, main2Q, o, "err 1", "5 4 2 1", 1, "4=14 5=15 1=21 2=22", [3]int{0, 0, 3}},
			{api.S3, 2, mainS3, o, "err 1", "4 2", 1, "2=26 4=8", [3]int{0, 0, 2}},
			{api.ARC, 2, fullARC, o, "err 1", "3 1", 1, "1=5 3=7", [3]int{1, 0, 1}},
			{api.LIRS, 2, fullLIRS, o, "err 1", "1 3", 1, "1=5 3=7", [3]int{0, 0, 1}},
		})
	}
}

// P19.1, P6: a Resize to more, and to the same, evicts none, and forgets none.
func TestResizeToMore(t *testing.T) {
	for _, n := range []int{4, 5, 9, 200, 1048575, 1048576} {
		o := "r" + strconv.Itoa(n)
		try(t, []trial{
			{api.LRU, 2, "p1=5 p2=6 p3=7 g2", o, "", "2 3", 0, "2=6 3=7", [3]int{1, 0, 1}},
			{api.TwoQ, 4, main2Q, o, "", "5 4 2 1", 1, "4=14 5=15 1=21 2=22", [3]int{0, 0, 3}},
			{api.S3, 2, mainS3, o, "", "4 2", 1, "2=26 4=8", [3]int{0, 0, 2}},
			{api.ARC, 2, fullARC, o, "", "3 1", 1, "1=5 3=7", [3]int{1, 0, 1}},
			{api.LIRS, 2, fullLIRS, o, "", "1 3", 1, "1=5 3=7", [3]int{0, 0, 1}},
		})
	}
	for _, policy := range five {
		try(t, []trial{
			{policy, 1, "", "r1048576", "", "", 0, "", [3]int{0, 0, 0}},
			{policy, 1, "p0=m", "r1", "", "0", 0, "0=m", [3]int{0, 0, 0}},
			{policy, 1048576, "", "r1", "", "", 0, "", [3]int{0, 0, 0}},
			{policy, 1048576, "p0=m", "r1", "", "0", 0, "0=m", [3]int{0, 0, 0}},
		})
	}
}

// P19.1, P6: a Resize to less evicts just as many as are too many, and tells them in turn, with their values.
func TestResizeToLess(t *testing.T) {
	try(t, []trial{
		{api.LRU, 4, "p1=5 p2=6 p3=7 p4=8 g1", "r3", "out 2=6", "1 4 3", 0, "1=5 3=7 4=8", [3]int{1, 0, 1}},
		{api.LRU, 4, "p1=5 p2=6 p3=7 p4=8 g1", "r2", "out 2=6 3=7", "1 4", 0, "1=5 4=8", [3]int{1, 0, 2}},
		{api.LRU, 4, "p1=5 p2=6 p3=7 p4=8 g1", "r1", "out 2=6 3=7 4=8", "1", 0, "1=5", [3]int{1, 0, 3}},
		{api.LRU, 4, "p1=5 p2=6 p3=7 p4=8 p1=9 p2=0", "r1", "out 3=7 4=8 1=9", "2", 0, "2=0", [3]int{0, 0, 3}},
		{api.LRU, 4, "p1=5 p2=6", "r3", "", "2 1", 0, "1=5 2=6", [3]int{0, 0, 0}},
		{api.TwoQ, 4, main2Q, "r3", "out 4=14", "5 2 1", 1, "5=15 1=21 2=22", [3]int{0, 0, 4}},
		{api.TwoQ, 4, main2Q, "r2", "out 4=14 1=21", "5 2", 1, "5=15 2=22", [3]int{0, 0, 5}},
		{api.TwoQ, 4, main2Q, "r1", "out 4=14 1=21 2=22", "5", 0, "5=15", [3]int{0, 0, 6}},
		{api.TwoQ, 4, full2Q, "r1", "out 2=12 3=13 4=14", "5", 0, "5=15", [3]int{0, 0, 4}},
		{api.S3, 2, mainS3, "r1", "out 4=8", "2", 0, "2=26", [3]int{0, 0, 3}},
		{api.S3, 2, mainS3 + " g4 g4", "r1", "out 2=26", "4", 0, "4=8", [3]int{2, 0, 3}},
		{api.S3, 4, "p1=5 p2=6 p3=7 p4=8", "r1", "out 1=5 2=6 3=7", "4", 0, "4=8", [3]int{0, 0, 3}},
		{api.ARC, 2, fullARC, "r1", "out 3=7", "1", 1, "1=5", [3]int{1, 0, 2}},
		{api.ARC, 4, "p1=5 p2=6 p3=7 p4=8 g1 g3", "r1", "out 2=6 4=8 1=5", "3", 1, "3=7", [3]int{2, 0, 3}},
		{api.LIRS, 2, fullLIRS, "r1", "out 3=7", "1", 0, "1=5", [3]int{0, 0, 2}},
		{api.LIRS, 4, "p1=5 p2=6 p3=7 p4=8", "r1", "out 4=8 1=5 2=6", "3", 0, "3=7", [3]int{0, 0, 3}},
	})
}

// P19.1: a Len tells how many are there, and not how many are remembered, or may be; it counts nothing.
func TestLen(t *testing.T) {
	for _, policy := range five {
		try(t, []trial{
			{policy, 3, "", "l", "n 0", "", 0, "", [3]int{0, 0, 0}},
			{policy, 3, "p0=m", "l", "n 1", "0", 0, "0=m", [3]int{0, 0, 0}},
			{policy, 3, "p0=m d0 d0", "l", "n 0", "", 0, "", [3]int{0, 0, 0}},
			{policy, 1, "p0=m p1=8", "l", "n 1", "1", 0, "1=8", [3]int{0, 0, 1}},
		})
	}
	try(t, []trial{
		{api.LRU, 2, "p1=5 p2=6 p3=7", "l", "n 2", "3 2", 0, "2=6 3=7", [3]int{0, 0, 1}},
		{api.TwoQ, 4, main2Q, "l", "n 4", "5 4 2 1", 1, "4=14 5=15 1=21 2=22", [3]int{0, 0, 3}},
		{api.S3, 2, mainS3, "l", "n 2", "4 2", 1, "2=26 4=8", [3]int{0, 0, 2}},
		{api.ARC, 2, fullARC, "l", "n 2", "3 1", 1, "1=5 3=7", [3]int{1, 0, 1}},
		{api.LIRS, 2, fullLIRS, "l", "n 2", "1 3", 1, "1=5 3=7", [3]int{0, 0, 1}},
	})
}

// P19.1, P3: an operation of no kind changes nothing.
func TestNoKind(t *testing.T) {
	for _, kind := range []int{0, -1, 6, 9, 257, math.MinInt, math.MaxInt} {
		o := "x" + strconv.Itoa(kind)
		try(t, []trial{
			{api.LRU, 2, "p1=5 p2=6 p3=7 g9 g2", o, "err 2", "2 3", 0, "2=6 3=7", [3]int{1, 1, 1}},
			{api.TwoQ, 4, main2Q, o, "err 2", "5 4 2 1", 1, "4=14 5=15 1=21 2=22", [3]int{0, 0, 3}},
			{api.S3, 2, mainS3, o, "err 2", "4 2", 1, "2=26 4=8", [3]int{0, 0, 2}},
			{api.ARC, 2, fullARC, o, "err 2", "3 1", 1, "1=5 3=7", [3]int{1, 0, 1}},
			{api.LIRS, 2, fullLIRS, o, "err 2", "1 3", 1, "1=5 3=7", [3]int{0, 0, 1}},
		})
		for _, policy := range five {
			try(t, []trial{{policy, 1, "", o, "err 2", "", 0, "", [3]int{0, 0, 0}}})
		}
	}
}

// Chapter 13's example, of all policies: with one place they are alike.
func TestExample(t *testing.T) {
	for _, policy := range five {
		try(t, []trial{{policy, 1, "p1=5", "p2=6", "out 1=5", "2", 0, "2=6", [3]int{0, 0, 1}}})
	}
}

// P19.2: what Resize tells of numbers that are none, by May's error; nothing is told beside it, and nothing is changed.
func TestResizeTellsWhatIsWrong(t *testing.T) {
	for _, policy := range five {
		for _, n := range []int{0, -1, -4, math.MinInt, 1048577, 1 << 21, 1<<32 | 2, math.MaxInt} {
			what := fmt.Sprintf("policy %d, Resize to %d", policy, n)
			e := built(policy, 3, opsOf("p1=5 p2=6 p0=m g1 g7"))
			keys, ghosts := e.Keys(), e.Ghosts()
			for range 3 {
				out, err := e.Resize(n)
				same(t, what, out, []api.Pair{})
				field, number, ok := config.Field(err)
				if config.Code(err) != api.ErrConfig || !errors.Is(err, api.ErrConfig) || !ok || field != "capacity" || number != n {
					t.Errorf("%s: %v", what, err)
				}
				sameError(t, what, err, policy, n)
				has(t, what, e, 3, keys, ghosts, api.Counts{Hits: 1, Misses: 1})
			}
			values(t, what, e, pairsOf("1=5 2=6 0=m"))
		}
		e := built(policy, 3, opsOf("p1=5 p2=6 p0=m"))
		for _, n := range []int{3, 1048576, 1048575, 3, 1} {
			out, err := e.Resize(n)
			if err != nil || len(out) != max(3-n, 0) || e.Capacity() != n {
				t.Errorf("policy %d, Resize to %d: %v, %v", policy, n, out, err)
			}
		}
	}
}

// P19.2: a Put tells nothing of a value that was there, and the value 0 is one that is there.
func TestCalls(t *testing.T) {
	for _, policy := range five {
		e := some(policy, 1)
		what := fmt.Sprintf("policy %d", policy)
		same(t, what+", Put", e.Put(7, 0), []api.Pair{})
		same(t, what+", Put once more", e.Put(7, greatest), []api.Pair{})
		same(t, what+", Put once more", e.Put(7, 0), []api.Pair{})
		if v, ok := e.Get(7); v != 0 || !ok {
			t.Errorf("%s, Get: %d, %t", what, v, ok)
		}
		same(t, what+", Put of another one", e.Put(greatest, greatest), pairsOf("7=0"))
		if v, ok := e.Get(7); v != 0 || ok {
			t.Errorf("%s, Get of what was evicted: %d, %t", what, v, ok)
		}
		if v, ok := e.Delete(7); v != 0 || ok {
			t.Errorf("%s, Delete of what was evicted: %d, %t", what, v, ok)
		}
		if v, ok := e.Delete(greatest); v != greatest || !ok {
			t.Errorf("%s, Delete: %d, %t", what, v, ok)
		}
		if v, ok := e.Delete(greatest); v != 0 || ok || e.Len() != 0 {
			t.Errorf("%s, Delete once more: %d, %t", what, v, ok)
		}
		same(t, what+", Counts", e.Counts(), api.Counts{Hits: 1, Misses: 1, Evicted: 1})
	}
}

// P19.4: of a nil Engine each call tells nothing but that, whatever it is given.
func TestNilEngine(t *testing.T) {
	var e *Engine
	for range 2 {
		for _, o := range triedOps() {
			what := fmt.Sprintf("nil, %+v", o)
			same(t, what, e.Do(o), api.Answer{Err: api.ErrOp})
			a, err := call(e, o)
			want := api.Answer{}
			if o.Kind < api.Get || o.Kind > api.Len { // no call has such a kind, so that it was Do
				want.Err = api.ErrOp
			}
			same(t, what+", the call", a, want)
			if o.Kind == api.Resize && (err == nil || config.Code(err) != api.ErrConfig || !errors.Is(err, api.ErrConfig)) {
				t.Errorf("%s: %v", what, err)
			}
			has(t, what, e, 0, nil, 0, api.Counts{})
			if nodes, keys := e.Rooms(); nodes != 0 || keys != 0 {
				t.Errorf("%s, Rooms: %d, %d", what, nodes, keys)
			}
		}
	}
}

// The chapter's example, and those of the whole, by an Engine's calls.
func TestExamplesOfTheWhole(t *testing.T) {
	e := some(api.ARC, 1)
	same(t, "ARC, 1: Put", e.Put(1, 5), []api.Pair{})
	if v, ok := e.Get(1); v != 5 || !ok {
		t.Errorf("ARC, 1: Get of 1: %d, %t", v, ok)
	}
	_, err := New(9, 4)
	same(t, "policy 9", err, "policy: 9: config")
	try(t, []trial{
		{api.LRU, 2, "p1=1 p2=2 g1", "p3=3", "out 2=2", "3 1", 0, "1=1 3=3", [3]int{1, 0, 1}},
		{api.TwoQ, 4, "p1=1 p2=2 p3=3 p4=4", "p5=5", "out 1=1", "5 4 3 2", 1, "2=2 3=3 4=4 5=5", [3]int{0, 0, 1}},
		{api.ARC, 2, "p1=1 p2=2 g1", "p3=3", "out 2=2", "3 1", 1, "1=1 3=3", [3]int{1, 0, 1}},
		{api.LIRS, 2, "p1=1 p2=2", "p3=3", "out 2=2", "1 3", 1, "1=1 3=3", [3]int{0, 0, 1}},
		{api.LRU, 2, "p1=5", "g1", "hit 5", "1", 0, "1=5", [3]int{1, 0, 0}},
	})
}

// P7: as long as nothing hits, and nothing comes again, ARC evicts what LRU does.
func TestArcAsLru(t *testing.T) {
	for _, c := range []int{1, 2, 3, 10, 100} {
		arc, lru := some(api.ARC, c), some(api.LRU, c)
		for n := range uint64(5 * c) {
			k := n*0x9e3779b9 + 7
			same(t, fmt.Sprintf("capacity %d, Put %d", c, n), arc.Put(k, n), lru.Put(k, n))
		}
		same(t, "Keys", arc.Keys(), lru.Keys())
	}
}

// The chapter lists no other calls, and no fields: nobody can put a key past the values, or a value past the policy.
func TestNoOtherCalls(t *testing.T) {
	var names []string
	for m := range reflect.TypeFor[*Engine]().Methods() {
		names = append(names, m.Name)
	}
	want := []string{"Capacity", "Counts", "Delete", "Do", "Get", "Ghosts", "Keys", "Len", "Put", "Resize", "Rooms"}
	if !slices.Equal(names, want) {
		t.Errorf("%v", names)
	}
	for _, f := range reflect.VisibleFields(reflect.TypeFor[Engine]()) {
		if f.IsExported() {
			t.Errorf("field %s", f.Name)
		}
	}
}
