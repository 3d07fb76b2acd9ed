package machine

import (
	"errors"
	"fmt"
	"math"
	"strconv"
	"strings"
	"testing"

	"hopper/api"
	"hopper/config"
)

const greatest = math.MaxUint64

var five = []int{api.LRU, api.TwoQ, api.S3, api.ARC, api.LIRS}

// number reads a key, or a value; m is the greatest one.
func number(text string) uint64 {
	if text == "m" {
		return greatest
	}
	n, err := strconv.ParseUint(text, 10, 64)
	if err != nil {
		panic(err)
	}
	return n
}

// whole reads a capacity, or a kind.
func whole(text string) int {
	n, err := strconv.Atoi(text)
	if err != nil {
		panic(err)
	}
	return n
}

// pair reads a key and its value, such as 1=5.
func pair(text string) api.Pair {
	k, v, _ := strings.Cut(text, "=")
	return api.Pair{Key: number(k), Val: number(v)}
}

func pairsOf(text string) []api.Pair {
	var all []api.Pair
	for _, word := range strings.Fields(text) {
		all = append(all, pair(word))
	}
	return all
}

func keysOf(text string) []uint64 {
	var all []uint64
	for _, word := range strings.Fields(text) {
		all = append(all, number(word))
	}
	return all
}

// op reads an operation: g1, p1=5, d1, r3, l, and x9 for one of the kind 9.
func op(text string) api.Op {
	switch rest := text[1:]; text[0] {
	case 'g':
		return api.Op{Kind: api.Get, Key: number(rest)}
	case 'p':
		p := pair(rest)
		return api.Op{Kind: api.Put, Key: p.Key, Val: p.Val}
	case 'd':
		return api.Op{Kind: api.Delete, Key: number(rest)}
	case 'r':
		return api.Op{Kind: api.Resize, N: whole(rest)}
	case 'l':
		return api.Op{Kind: api.Len}
	default:
		return api.Op{Kind: whole(rest)}
	}
}

// answer reads an answer: hit 5, out 1=5 2=6, n 2, err 1, or nothing.
func answer(text string) api.Answer {
	word, rest, _ := strings.Cut(text, " ")
	switch word {
	case "hit":
		return api.Answer{Hit: true, Val: number(rest)}
	case "out":
		return api.Answer{Out: pairsOf(rest)}
	case "n":
		return api.Answer{N: whole(rest)}
	case "err":
		return api.Answer{Err: api.Errno(whole(rest))}
	}
	return api.Answer{}
}

// built is a state behind a script.
func built(policy, c int, script string) State {
	s, err := New(policy, c)
	if err != nil {
		panic(err)
	}
	for _, word := range strings.Fields(script) {
		s, _ = Step(s, op(word))
	}
	return s
}

// same holds two things against each other by what they tell when they are printed: nil and empty, of slices, are the same there.
func same(t *testing.T, what string, got, want any) {
	t.Helper()
	if g, w := fmt.Sprint(got), fmt.Sprint(want); g != w {
		t.Errorf("%s: %s, not %s", what, g, w)
	}
}

// othersZero asks that the fields of the four other policies have nothing.
func othersZero(t *testing.T, what string, s State) {
	t.Helper()
	only := State{Policy: s.Policy, Pairs: s.Pairs, Counts: s.Counts}
	switch s.Policy {
	case api.LRU:
		only.Lru = s.Lru
	case api.TwoQ:
		only.Twoq = s.Twoq
	case api.S3:
		only.Sthree = s.Sthree
	case api.ARC:
		only.Arc = s.Arc
	case api.LIRS:
		only.Lirs = s.Lirs
	}
	same(t, what+", the other fields", s, only)
}

// A trial is of an operation, of the state behind a script: what it answers; and of the state behind it the keys, how many are remembered, the pairs, and the counts (hits, misses, evicted).
type trial struct {
	policy, c int
	ahead, op string
	answer    string
	keys      string
	ghosts    int
	pairs     string
	counts    [3]int
}

func try(t *testing.T, all []trial) {
	t.Helper()
	for _, x := range all {
		what := fmt.Sprintf("policy %d, capacity %d, %s, then %s", x.policy, x.c, x.ahead, x.op)
		s := built(x.policy, x.c, x.ahead)
		before := fmt.Sprint(s)
		o := op(x.op)
		next, a := Step(s, o)
		same(t, what+", the answer", a, answer(x.answer))
		same(t, what+", Keys", Keys(next), keysOf(x.keys))
		same(t, what+", Ghosts", Ghosts(next), x.ghosts)
		same(t, what+", Pairs", next.Pairs, pairsOf(x.pairs))
		same(t, what+", Counts", next.Counts, api.Counts{Hits: x.counts[0], Misses: x.counts[1], Evicted: x.counts[2]})
		same(t, what+", Policy", next.Policy, x.policy)
		c := Capacity(s)
		if o.Kind == api.Resize && a.Err == api.OK {
			c = o.N
		}
		same(t, what+", Capacity", Capacity(next), c)
		othersZero(t, what, next)
		same(t, what+", the state ahead", s, before)
	}
}

// P13.1, P3: what may not be, the policy asked first; the state beside it is the zero one.
func TestNewRefuses(t *testing.T) {
	for _, x := range []struct {
		policy, c int
		field     string
		n         int
	}{
		{0, 4, "policy", 0}, {-1, 4, "policy", -1}, {6, 4, "policy", 6}, {9, 4, "policy", 9},
		{math.MinInt, 4, "policy", math.MinInt}, {math.MaxInt, 4, "policy", math.MaxInt},
		{0, 0, "policy", 0}, {6, 1048577, "policy", 6},
		{api.LRU, 0, "capacity", 0}, {api.TwoQ, -1, "capacity", -1}, {api.S3, math.MinInt, "capacity", math.MinInt},
		{api.ARC, 1048577, "capacity", 1048577}, {api.LIRS, math.MaxInt, "capacity", math.MaxInt},
		{api.LRU, 1048577, "capacity", 1048577}, {api.TwoQ, 0, "capacity", 0}, {api.S3, 0, "capacity", 0},
		{api.ARC, 0, "capacity", 0}, {api.LIRS, 0, "capacity", 0},
	} {
		what := fmt.Sprintf("New of %d and %d", x.policy, x.c)
		s, err := New(x.policy, x.c)
		field, n, ok := config.Field(err)
		if err == nil || !errors.Is(err, api.ErrConfig) || !ok || field != x.field || n != x.n {
			t.Errorf("%s: %v", what, err)
		}
		same(t, what+", the error", err, config.May(x.policy, x.c))
		same(t, what+", the state", s, State{})
	}
}

// P13.1, P13.3: a new state has its policy, and its capacity, and nothing else.
func TestNew(t *testing.T) {
	for _, policy := range five {
		for _, c := range []int{1, 2, 3, 10, 100, 1048575, 1048576} {
			what := fmt.Sprintf("New of %d and %d", policy, c)
			s, err := New(policy, c)
			if err != nil {
				t.Errorf("%s: %v", what, err)
			}
			fits(t, what, s, newModel(policy, c))
			same(t, what+", Capacity", Capacity(s), c)
			same(t, what+", Keys", Keys(s), []uint64{})
			same(t, what+", Ghosts", Ghosts(s), 0)
			same(t, what+", Pairs", s.Pairs, []api.Pair{})
			same(t, what+", Counts", s.Counts, api.Counts{})
			othersZero(t, what, s)
		}
	}
}

// Scripts that leave the key 1 evicted, and remembered (but by LRU); of ARC it is the key 2.
const (
	full2Q   = "p1=11 p2=12 p3=13 p4=14 p5=15" // of 4: In 5 4 3 2, Out 1
	main2Q   = full2Q + " p1=21 p2=22"         // In 5 4, Main 2 1, Out 3
	fullS3   = "p1=5 p2=6 p3=7"                // of 2: Small 3 2, Ghost 1
	mainS3   = fullS3 + " p2=16 p2=26 p4=8"    // Small 4, Main 2, Ghost 3
	fullARC  = "p1=5 p2=6 g1 p3=7"             // of 2: T1 3, T2 1, B1 2
	fullLIRS = "p1=5 p2=6 p3=7"                // of 2: S 3 Cold, 2 Gone, 1 Hot, Q 3
)

// P13.2: a Get of a key that is there.
func TestGetThere(t *testing.T) {
	try(t, []trial{
		{api.LRU, 2, "p1=5 p2=6", "g1", "hit 5", "1 2", 0, "1=5 2=6", [3]int{1, 0, 0}},
		{api.LRU, 2, "p1=5 p2=6", "g2", "hit 6", "2 1", 0, "1=5 2=6", [3]int{1, 0, 0}},
		{api.LRU, 2, "p1=5 p2=6 g1", "g1", "hit 5", "1 2", 0, "1=5 2=6", [3]int{2, 0, 0}},
		{api.LRU, 1, "p0=0", "g0", "hit 0", "0", 0, "0=0", [3]int{1, 0, 0}},
		{api.LRU, 1, "pm=m", "gm", "hit m", "m", 0, "m=m", [3]int{1, 0, 0}},
		{api.TwoQ, 4, full2Q, "g2", "hit 12", "5 4 3 2", 1, "2=12 3=13 4=14 5=15", [3]int{1, 0, 1}},
		{api.TwoQ, 4, main2Q, "g1", "hit 21", "5 4 1 2", 1, "4=14 5=15 1=21 2=22", [3]int{1, 0, 3}},
		{api.TwoQ, 1, "p0=m", "g0", "hit m", "0", 0, "0=m", [3]int{1, 0, 0}},
		{api.TwoQ, 1, "pm=0", "gm", "hit 0", "m", 0, "m=0", [3]int{1, 0, 0}},
		{api.S3, 2, fullS3, "g2", "hit 6", "3 2", 1, "2=6 3=7", [3]int{1, 0, 1}},
		{api.S3, 2, mainS3, "g2", "hit 26", "4 2", 1, "2=26 4=8", [3]int{1, 0, 2}},
		{api.S3, 1, "p0=m", "g0", "hit m", "0", 0, "0=m", [3]int{1, 0, 0}},
		{api.S3, 1, "pm=0", "gm", "hit 0", "m", 0, "m=0", [3]int{1, 0, 0}},
		{api.ARC, 2, fullARC, "g3", "hit 7", "3 1", 1, "1=5 3=7", [3]int{2, 0, 1}},
		{api.ARC, 2, fullARC + " g3", "g1", "hit 5", "1 3", 1, "1=5 3=7", [3]int{3, 0, 1}},
		{api.ARC, 1, "p0=m", "g0", "hit m", "0", 0, "0=m", [3]int{1, 0, 0}},
		{api.ARC, 1, "pm=0", "gm", "hit 0", "m", 0, "m=0", [3]int{1, 0, 0}},
		{api.LIRS, 2, fullLIRS, "g3", "hit 7", "3 1", 0, "1=5 3=7", [3]int{1, 0, 1}},
		{api.LIRS, 2, fullLIRS, "g1", "hit 5", "1 3", 0, "1=5 3=7", [3]int{1, 0, 1}},
		{api.LIRS, 1, "p0=m", "g0", "hit m", "0", 0, "0=m", [3]int{1, 0, 0}},
		{api.LIRS, 1, "pm=0", "gm", "hit 0", "m", 0, "m=0", [3]int{1, 0, 0}},
	})
}

// P13.2: a Get of a key that was never put, that was evicted, that is remembered, and that was deleted: nothing is changed but the misses.
func TestGetOthers(t *testing.T) {
	try(t, []trial{
		{api.LRU, 1, "", "g0", "", "", 0, "", [3]int{0, 1, 0}},
		{api.LRU, 2, "p1=5 p2=6 p3=7", "g1", "", "3 2", 0, "2=6 3=7", [3]int{0, 1, 1}},
		{api.LRU, 2, "p1=5 p2=6", "gm", "", "2 1", 0, "1=5 2=6", [3]int{0, 1, 0}},
		{api.LRU, 2, "p1=5 p2=6 d2", "g2", "", "1", 0, "1=5", [3]int{0, 1, 0}},
		{api.LRU, 2, "g1 p1=5", "g4294967297", "", "1", 0, "1=5", [3]int{0, 2, 0}},
		{api.TwoQ, 1, "", "g0", "", "", 0, "", [3]int{0, 1, 0}},
		{api.TwoQ, 4, full2Q, "g1", "", "5 4 3 2", 1, "2=12 3=13 4=14 5=15", [3]int{0, 1, 1}},
		{api.TwoQ, 4, full2Q, "gm", "", "5 4 3 2", 1, "2=12 3=13 4=14 5=15", [3]int{0, 1, 1}},
		{api.TwoQ, 4, full2Q + " d4", "g4", "", "5 3 2", 1, "2=12 3=13 5=15", [3]int{0, 1, 1}},
		{api.S3, 1, "", "g0", "", "", 0, "", [3]int{0, 1, 0}},
		{api.S3, 2, fullS3, "g1", "", "3 2", 1, "2=6 3=7", [3]int{0, 1, 1}},
		{api.S3, 2, fullS3, "gm", "", "3 2", 1, "2=6 3=7", [3]int{0, 1, 1}},
		{api.S3, 2, fullS3 + " d3", "g3", "", "2", 1, "2=6", [3]int{0, 1, 1}},
		{api.ARC, 1, "", "g0", "", "", 0, "", [3]int{0, 1, 0}},
		{api.ARC, 2, fullARC, "g2", "", "3 1", 1, "1=5 3=7", [3]int{1, 1, 1}},
		{api.ARC, 2, fullARC, "gm", "", "3 1", 1, "1=5 3=7", [3]int{1, 1, 1}},
		{api.ARC, 2, fullARC + " d1", "g1", "", "3", 1, "3=7", [3]int{1, 1, 1}},
		{api.LIRS, 1, "", "g0", "", "", 0, "", [3]int{0, 1, 0}},
		{api.LIRS, 2, fullLIRS, "g2", "", "1 3", 1, "1=5 3=7", [3]int{0, 1, 1}},
		{api.LIRS, 2, fullLIRS, "gm", "", "1 3", 1, "1=5 3=7", [3]int{0, 1, 1}},
		{api.LIRS, 2, fullLIRS + " d3", "g3", "", "1", 1, "1=5", [3]int{0, 1, 1}},
	})
}

// P13.2: a Put of a key that is there tells the value that it had, and touches it; its pair stays where it is, and nothing is counted.
func TestPutThere(t *testing.T) {
	try(t, []trial{
		{api.LRU, 2, "p1=5 p2=6", "p1=9", "hit 5", "1 2", 0, "1=9 2=6", [3]int{0, 0, 0}},
		{api.LRU, 2, "p1=5 p2=6", "p2=9", "hit 6", "2 1", 0, "1=5 2=9", [3]int{0, 0, 0}},
		{api.LRU, 2, "p1=5 p2=6", "p1=5", "hit 5", "1 2", 0, "1=5 2=6", [3]int{0, 0, 0}},
		{api.LRU, 3, "p1=5 p2=6 p1=9", "p1=0", "hit 9", "1 2", 0, "1=0 2=6", [3]int{0, 0, 0}},
		{api.LRU, 1, "p0=0", "p0=m", "hit 0", "0", 0, "0=m", [3]int{0, 0, 0}},
		{api.LRU, 1, "pm=m", "pm=0", "hit m", "m", 0, "m=0", [3]int{0, 0, 0}},
		{api.TwoQ, 4, full2Q, "p2=9", "hit 12", "5 4 3 2", 1, "2=9 3=13 4=14 5=15", [3]int{0, 0, 1}},
		{api.TwoQ, 4, main2Q, "p1=9", "hit 21", "5 4 1 2", 1, "4=14 5=15 1=9 2=22", [3]int{0, 0, 3}},
		{api.TwoQ, 1, "p0=0", "p0=m", "hit 0", "0", 0, "0=m", [3]int{0, 0, 0}},
		{api.TwoQ, 1, "pm=m", "pm=0", "hit m", "m", 0, "m=0", [3]int{0, 0, 0}},
		{api.S3, 2, fullS3, "p2=9", "hit 6", "3 2", 1, "2=9 3=7", [3]int{0, 0, 1}},
		{api.S3, 2, mainS3, "p2=9", "hit 26", "4 2", 1, "2=9 4=8", [3]int{0, 0, 2}},
		{api.S3, 1, "p0=0", "p0=m", "hit 0", "0", 0, "0=m", [3]int{0, 0, 0}},
		{api.S3, 1, "pm=m", "pm=0", "hit m", "m", 0, "m=0", [3]int{0, 0, 0}},
		{api.ARC, 2, fullARC, "p3=9", "hit 7", "3 1", 1, "1=5 3=9", [3]int{1, 0, 1}},
		{api.ARC, 2, fullARC + " g3", "p1=9", "hit 5", "1 3", 1, "1=9 3=7", [3]int{2, 0, 1}},
		{api.ARC, 1, "p0=0", "p0=m", "hit 0", "0", 0, "0=m", [3]int{0, 0, 0}},
		{api.ARC, 1, "pm=m", "pm=0", "hit m", "m", 0, "m=0", [3]int{0, 0, 0}},
		{api.LIRS, 2, fullLIRS, "p3=9", "hit 7", "3 1", 0, "1=5 3=9", [3]int{0, 0, 1}},
		{api.LIRS, 2, fullLIRS, "p1=9", "hit 5", "1 3", 0, "1=9 3=7", [3]int{0, 0, 1}},
		{api.LIRS, 1, "p0=0", "p0=m", "hit 0", "0", 0, "0=m", [3]int{0, 0, 0}},
		{api.LIRS, 1, "pm=m", "pm=0", "hit m", "m", 0, "m=0", [3]int{0, 0, 0}},
	})
}

// P13.2: a Put of a new key, where there is room: its pair is the last one, and nothing is counted.
func TestPutWithRoom(t *testing.T) {
	for _, policy := range five {
		try(t, []trial{
			{policy, 1, "", "p0=0", "", "0", 0, "0=0", [3]int{0, 0, 0}},
			{policy, 1, "", "pm=m", "", "m", 0, "m=m", [3]int{0, 0, 0}},
			{policy, 1048576, "", "p7=0", "", "7", 0, "7=0", [3]int{0, 0, 0}},
			{policy, 1, "p7=8 d7", "p9=10", "", "9", 0, "9=10", [3]int{0, 0, 0}},
		})
	}
	try(t, []trial{
		{api.LRU, 3, "p2=5 p1=6", "p0=m", "", "0 1 2", 0, "2=5 1=6 0=m", [3]int{0, 0, 0}},
		{api.TwoQ, 3, "p2=5 p1=6", "p0=m", "", "0 1 2", 0, "2=5 1=6 0=m", [3]int{0, 0, 0}},
		{api.S3, 3, "p2=5 p1=6", "p0=m", "", "0 1 2", 0, "2=5 1=6 0=m", [3]int{0, 0, 0}},
		{api.ARC, 3, "p2=5 p1=6", "p0=m", "", "0 1 2", 0, "2=5 1=6 0=m", [3]int{0, 0, 0}},
		{api.LIRS, 3, "p2=5 p1=6", "p0=m", "", "1 2 0", 0, "2=5 1=6 0=m", [3]int{0, 0, 0}},
	})
}

// P13.2: a Put of a new key, where there is no room: what is evicted, with the value that was put for it last.
func TestPutEvicts(t *testing.T) {
	try(t, []trial{
		{api.LRU, 2, "p1=5 p2=6", "p3=7", "out 1=5", "3 2", 0, "2=6 3=7", [3]int{0, 0, 1}},
		{api.LRU, 2, "p1=5 p2=6 g1", "p3=7", "out 2=6", "3 1", 0, "1=5 3=7", [3]int{1, 0, 1}},
		{api.LRU, 2, "p1=5 p2=6 p1=9", "p3=7", "out 2=6", "3 1", 0, "1=9 3=7", [3]int{0, 0, 1}},
		{api.LRU, 2, "p1=5 p1=9 p2=6", "p3=7", "out 1=9", "3 2", 0, "2=6 3=7", [3]int{0, 0, 1}},
		{api.LRU, 1, "p0=m", "pm=0", "out 0=m", "m", 0, "m=0", [3]int{0, 0, 1}},
		{api.TwoQ, 4, "p1=11 p2=12 p3=13 p4=14", "p5=15", "out 1=11", "5 4 3 2", 1, "2=12 3=13 4=14 5=15", [3]int{0, 0, 1}},
		{api.TwoQ, 4, "p1=11 p2=12 p1=9 p3=13 p4=14", "p5=15", "out 1=9", "5 4 3 2", 1, "2=12 3=13 4=14 5=15", [3]int{0, 0, 1}},
		{api.TwoQ, 1, "p0=m", "pm=0", "out 0=m", "m", 0, "m=0", [3]int{0, 0, 1}},
		{api.S3, 2, "p1=5 p2=6", "p3=7", "out 1=5", "3 2", 1, "2=6 3=7", [3]int{0, 0, 1}},
		{api.S3, 2, fullS3 + " g2 g2", "p4=8", "out 3=7", "4 2", 1, "2=6 4=8", [3]int{2, 0, 2}},
		{api.S3, 2, fullS3 + " p2=16 p2=26", "p4=8", "out 3=7", "4 2", 1, "2=26 4=8", [3]int{0, 0, 2}},
		{api.S3, 1, "p0=m", "pm=0", "out 0=m", "m", 0, "m=0", [3]int{0, 0, 1}},
		{api.ARC, 2, "p1=5 p2=6 g1", "p3=7", "out 2=6", "3 1", 1, "1=5 3=7", [3]int{1, 0, 1}},
		{api.ARC, 2, "p1=5 p2=6 p1=9", "p3=7", "out 2=6", "3 1", 1, "1=9 3=7", [3]int{0, 0, 1}},
		{api.ARC, 2, "p1=5 p2=6", "p3=7", "out 1=5", "3 2", 0, "2=6 3=7", [3]int{0, 0, 1}},
		{api.ARC, 1, "p0=m", "pm=0", "out 0=m", "m", 0, "m=0", [3]int{0, 0, 1}},
		{api.LIRS, 2, "p1=5 p2=6", "p3=7", "out 2=6", "1 3", 1, "1=5 3=7", [3]int{0, 0, 1}},
		{api.LIRS, 2, "p1=5 p2=6 p2=9", "p3=7", "out 1=5", "2 3", 0, "2=9 3=7", [3]int{0, 0, 1}},
		{api.LIRS, 1, "p0=m", "pm=0", "out 0=m", "m", 0, "m=0", [3]int{0, 0, 1}},
	})
}

// P13.2: a Put of a key that was evicted, and that most policies remember, tells no value of it; its pair is the last one.
func TestPutAgain(t *testing.T) {
	try(t, []trial{
		{api.LRU, 2, "p1=5 p2=6 p3=7", "p1=9", "out 2=6", "1 3", 0, "3=7 1=9", [3]int{0, 0, 2}},
		{api.TwoQ, 4, full2Q, "p1=21", "out 2=12", "5 4 3 1", 1, "3=13 4=14 5=15 1=21", [3]int{0, 0, 2}},
		{api.TwoQ, 4, full2Q + " d3", "p1=21", "", "5 4 2 1", 0, "2=12 4=14 5=15 1=21", [3]int{0, 0, 1}},
		{api.S3, 2, fullS3, "p1=8", "out 2=6", "3 1", 1, "3=7 1=8", [3]int{0, 0, 2}},
		{api.S3, 2, fullS3 + " d3", "p1=8", "", "2 1", 0, "2=6 1=8", [3]int{0, 0, 1}},
		{api.ARC, 2, fullARC, "p2=9", "out 1=5", "3 2", 1, "3=7 2=9", [3]int{1, 0, 2}},
		{api.ARC, 2, fullARC + " d1", "p2=9", "", "3 2", 0, "3=7 2=9", [3]int{1, 0, 1}},
		{api.LIRS, 2, fullLIRS, "p2=9", "out 3=7", "2 1", 0, "1=5 2=9", [3]int{0, 0, 2}},
		{api.LIRS, 2, fullLIRS + " d3", "p2=9", "", "2 1", 0, "1=5 2=9", [3]int{0, 0, 1}},
	})
}

// P13.2: a Put behind a Delete: it is a new one, even if it was remembered.
func TestPutBehindDelete(t *testing.T) {
	try(t, []trial{
		{api.LRU, 2, "p1=5 p2=6 d1", "p1=8", "", "1 2", 0, "2=6 1=8", [3]int{0, 0, 0}},
		{api.TwoQ, 4, "p1=11 p2=12 d1", "p1=21", "", "1 2", 0, "2=12 1=21", [3]int{0, 0, 0}},
		{api.TwoQ, 4, full2Q + " d1", "p1=21", "out 2=12", "1 5 4 3", 1, "3=13 4=14 5=15 1=21", [3]int{0, 0, 2}},
		{api.S3, 2, "p1=5 p2=6 d1", "p1=8", "", "1 2", 0, "2=6 1=8", [3]int{0, 0, 0}},
		{api.S3, 2, fullS3 + " d1", "p1=8", "out 2=6", "1 3", 1, "3=7 1=8", [3]int{0, 0, 2}},
		{api.ARC, 2, "p1=5 p2=6 d1", "p1=8", "", "1 2", 0, "2=6 1=8", [3]int{0, 0, 0}},
		{api.ARC, 2, fullARC + " d2", "p2=9", "out 3=7", "2 1", 1, "1=5 2=9", [3]int{1, 0, 2}},
		{api.LIRS, 2, "p1=5 p2=6 d1", "p1=8", "", "1 2", 0, "2=6 1=8", [3]int{0, 0, 0}},
		{api.LIRS, 2, fullLIRS + " d2", "p2=9", "out 3=7", "1 2", 1, "1=5 2=9", [3]int{0, 0, 2}},
	})
}

// P13.2: a Delete of a key that is there, and of one that isn't: one that is remembered is forgotten by it. Nothing is counted.
func TestDelete(t *testing.T) {
	for _, policy := range five {
		try(t, []trial{
			{policy, 1, "", "d0", "", "", 0, "", [3]int{0, 0, 0}},
			{policy, 1, "p0=m", "d0", "hit m", "", 0, "", [3]int{0, 0, 0}},
			{policy, 1, "pm=0", "dm", "hit 0", "", 0, "", [3]int{0, 0, 0}},
			{policy, 1, "p0=m", "dm", "", "0", 0, "0=m", [3]int{0, 0, 0}},
			{policy, 1, "p0=m d0", "d0", "", "", 0, "", [3]int{0, 0, 0}},
		})
	}
	try(t, []trial{
		{api.LRU, 3, "p1=5 p2=6 p3=7", "d1", "hit 5", "3 2", 0, "2=6 3=7", [3]int{0, 0, 0}},
		{api.LRU, 3, "p1=5 p2=6 p3=7", "d2", "hit 6", "3 1", 0, "1=5 3=7", [3]int{0, 0, 0}},
		{api.LRU, 3, "p1=5 p2=6 p3=7", "d3", "hit 7", "2 1", 0, "1=5 2=6", [3]int{0, 0, 0}},
		{api.LRU, 3, "p1=5 p2=6 p3=7 p2=9", "d2", "hit 9", "3 1", 0, "1=5 3=7", [3]int{0, 0, 0}},
		{api.LRU, 2, "p1=5 p2=6 p3=7", "d1", "", "3 2", 0, "2=6 3=7", [3]int{0, 0, 1}},
		{api.TwoQ, 4, full2Q, "d3", "hit 13", "5 4 2", 1, "2=12 4=14 5=15", [3]int{0, 0, 1}},
		{api.TwoQ, 4, main2Q, "d1", "hit 21", "5 4 2", 1, "4=14 5=15 2=22", [3]int{0, 0, 3}},
		{api.TwoQ, 4, full2Q, "d1", "", "5 4 3 2", 0, "2=12 3=13 4=14 5=15", [3]int{0, 0, 1}},
		{api.S3, 2, fullS3, "d2", "hit 6", "3", 1, "3=7", [3]int{0, 0, 1}},
		{api.S3, 2, mainS3, "d2", "hit 26", "4", 1, "4=8", [3]int{0, 0, 2}},
		{api.S3, 2, fullS3, "d1", "", "3 2", 0, "2=6 3=7", [3]int{0, 0, 1}},
		{api.ARC, 2, fullARC, "d3", "hit 7", "1", 1, "1=5", [3]int{1, 0, 1}},
		{api.ARC, 2, fullARC, "d1", "hit 5", "3", 1, "3=7", [3]int{1, 0, 1}},
		{api.ARC, 2, fullARC, "d2", "", "3 1", 0, "1=5 3=7", [3]int{1, 0, 1}},
		{api.LIRS, 2, fullLIRS, "d1", "hit 5", "3", 0, "3=7", [3]int{0, 0, 1}},
		{api.LIRS, 2, fullLIRS, "d3", "hit 7", "1", 1, "1=5", [3]int{0, 0, 1}},
		{api.LIRS, 2, fullLIRS, "d2", "", "1 3", 0, "1=5 3=7", [3]int{0, 0, 1}},
	})
}

// P13.2, P3: a Resize to what may not be changes nothing.
func TestResizeRefused(t *testing.T) {
	for _, n := range []int{0, -1, -4, math.MinInt, 1048577, math.MaxInt} {
		o := "r" + strconv.Itoa(n)
		try(t, []trial{
			{api.LRU, 2, "p1=5 p2=6 p3=7 g9 g2", o, "err 1", "2 3", 0, "2=6 3=7", [3]int{1, 1, 1}},
			{api.TwoQ, 4, main2Q, o, "err 1", "5 4 2 1", 1, "4=14 5=15 1=21 2=22", [3]int{0, 0, 3}},
			{api.S3, 2, mainS3, o, "err 1", "4 2", 1, "2=26 4=8", [3]int{0, 0, 2}},
			{api.ARC, 2, fullARC, o, "err 1", "3 1", 1, "1=5 3=7", [3]int{1, 0, 1}},
			{api.LIRS, 2, fullLIRS, o, "err 1", "1 3", 1, "1=5 3=7", [3]int{0, 0, 1}},
		})
	}
}

// P13.2, P6: a Resize to more, and to the same, evicts none, and forgets none.
func TestResizeToMore(t *testing.T) {
	for _, n := range []int{4, 5, 9, 200, 1048575, 1048576} {
		o := "r" + strconv.Itoa(n)
		try(t, []trial{
			{api.LRU, 2, "p1=5 p2=6 p3=7 g2", o, "", "2 3", 0, "2=6 3=7", [3]int{1, 0, 1}},
			{api.TwoQ, 4, main2Q, o, "", "5 4 2 1", 1, "4=14 5=15 1=21 2=22", [3]int{0, 0, 3}},
			{api.S3, 2, mainS3, o, "", "4 2", 1, "2=26 4=8", [3]int{0, 0, 2}},
			{api.ARC, 2, fullARC, o, "", "3 1", 1, "1=5 3=7", [3]int{1, 0, 1}},
			{api.LIRS, 2, fullLIRS, o, "", "1 3", 1, "1=5 3=7", [3]int{0, 0, 1}},
		})
	}
	for _, policy := range five {
		try(t, []trial{
			{policy, 1, "", "r1048576", "", "", 0, "", [3]int{0, 0, 0}},
			{policy, 1, "p0=m", "r1", "", "0", 0, "0=m", [3]int{0, 0, 0}},
			{policy, 1048576, "", "r1", "", "", 0, "", [3]int{0, 0, 0}},
			{policy, 1048576, "p0=m", "r1", "", "0", 0, "0=m", [3]int{0, 0, 0}},
		})
	}
}

// P13.2, P6: a Resize to less evicts just as many as are too many, and tells them in turn, with their values.
func TestResizeToLess(t *testing.T) {
	try(t, []trial{
		{api.LRU, 4, "p1=5 p2=6 p3=7 p4=8 g1", "r3", "out 2=6", "1 4 3", 0, "1=5 3=7 4=8", [3]int{1, 0, 1}},
		{api.LRU, 4, "p1=5 p2=6 p3=7 p4=8 g1", "r2", "out 2=6 3=7", "1 4", 0, "1=5 4=8", [3]int{1, 0, 2}},
		{api.LRU, 4, "p1=5 p2=6 p3=7 p4=8 g1", "r1", "out 2=6 3=7 4=8", "1", 0, "1=5", [3]int{1, 0, 3}},
		{api.LRU, 4, "p1=5 p2=6 p3=7 p4=8 p1=9 p2=0", "r1", "out 3=7 4=8 1=9", "2", 0, "2=0", [3]int{0, 0, 3}},
		{api.LRU, 4, "p1=5 p2=6", "r3", "", "2 1", 0, "1=5 2=6", [3]int{0, 0, 0}},
		{api.TwoQ, 4, main2Q, "r3", "out 4=14", "5 2 1", 1, "5=15 1=21 2=22", [3]int{0, 0, 4}},
		{api.TwoQ, 4, main2Q, "r2", "out 4=14 1=21", "5 2", 1, "5=15 2=22", [3]int{0, 0, 5}},
		{api.TwoQ, 4, main2Q, "r1", "out 4=14 1=21 2=22", "5", 0, "5=15", [3]int{0, 0, 6}},
		{api.TwoQ, 4, full2Q, "r1", "out 2=12 3=13 4=14", "5", 0, "5=15", [3]int{0, 0, 4}},
		{api.S3, 2, mainS3, "r1", "out 4=8", "2", 0, "2=26", [3]int{0, 0, 3}},
		{api.S3, 2, mainS3 + " g4 g4", "r1", "out 2=26", "4", 0, "4=8", [3]int{2, 0, 3}},
		{api.S3, 4, "p1=5 p2=6 p3=7 p4=8", "r1", "out 1=5 2=6 3=7", "4", 0, "4=8", [3]int{0, 0, 3}},
		{api.ARC, 2, fullARC, "r1", "out 3=7", "1", 1, "1=5", [3]int{1, 0, 2}},
		{api.ARC, 4, "p1=5 p2=6 p3=7 p4=8 g1 g3", "r1", "out 2=6 4=8 1=5", "3", 1, "3=7", [3]int{2, 0, 3}},
		{api.LIRS, 2, fullLIRS, "r1", "out 3=7", "1", 0, "1=5", [3]int{0, 0, 2}},
		{api.LIRS, 4, "p1=5 p2=6 p3=7 p4=8", "r1", "out 4=8 1=5 2=6", "3", 0, "3=7", [3]int{0, 0, 3}},
	})
}

// P13.2: a Len tells how many are there, and not how many are remembered, or may be; it counts nothing.
func TestLen(t *testing.T) {
	for _, policy := range five {
		try(t, []trial{
			{policy, 3, "", "l", "n 0", "", 0, "", [3]int{0, 0, 0}},
			{policy, 3, "p0=m", "l", "n 1", "0", 0, "0=m", [3]int{0, 0, 0}},
			{policy, 3, "p0=m d0 d0", "l", "n 0", "", 0, "", [3]int{0, 0, 0}},
			{policy, 1, "p0=m p1=8", "l", "n 1", "1", 0, "1=8", [3]int{0, 0, 1}},
		})
	}
	try(t, []trial{
		{api.LRU, 2, "p1=5 p2=6 p3=7", "l", "n 2", "3 2", 0, "2=6 3=7", [3]int{0, 0, 1}},
		{api.TwoQ, 4, main2Q, "l", "n 4", "5 4 2 1", 1, "4=14 5=15 1=21 2=22", [3]int{0, 0, 3}},
		{api.S3, 2, mainS3, "l", "n 2", "4 2", 1, "2=26 4=8", [3]int{0, 0, 2}},
		{api.ARC, 2, fullARC, "l", "n 2", "3 1", 1, "1=5 3=7", [3]int{1, 0, 1}},
		{api.LIRS, 2, fullLIRS, "l", "n 2", "1 3", 1, "1=5 3=7", [3]int{0, 0, 1}},
	})
}

// P13.2, P3: an operation of no kind changes nothing.
func TestNoKind(t *testing.T) {
	for _, kind := range []int{0, -1, 6, 9, 257, math.MinInt, math.MaxInt} {
		o := "x" + strconv.Itoa(kind)
		try(t, []trial{
			{api.LRU, 2, "p1=5 p2=6 p3=7 g9 g2", o, "err 2", "2 3", 0, "2=6 3=7", [3]int{1, 1, 1}},
			{api.TwoQ, 4, main2Q, o, "err 2", "5 4 2 1", 1, "4=14 5=15 1=21 2=22", [3]int{0, 0, 3}},
			{api.S3, 2, mainS3, o, "err 2", "4 2", 1, "2=26 4=8", [3]int{0, 0, 2}},
			{api.ARC, 2, fullARC, o, "err 2", "3 1", 1, "1=5 3=7", [3]int{1, 0, 1}},
			{api.LIRS, 2, fullLIRS, o, "err 2", "1 3", 1, "1=5 3=7", [3]int{0, 0, 1}},
		})
		for _, policy := range five {
			try(t, []trial{{policy, 1, "", o, "err 2", "", 0, "", [3]int{0, 0, 0}}})
		}
	}
}

// The chapter's example, of all policies: with one place they are alike.
func TestExample(t *testing.T) {
	for _, policy := range five {
		try(t, []trial{{policy, 1, "p1=5", "p2=6", "out 1=5", "2", 0, "2=6", [3]int{0, 0, 1}}})
	}
}
