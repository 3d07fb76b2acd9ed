package machine

import (
	"fmt"
	"math"
	"math/rand/v2"
	"reflect"
	"slices"
	"testing"

	"hopper/api"
	"hopper/arc"
	"hopper/lirs"
	"hopper/lru"
	"hopper/sthree"
	"hopper/twoq"
)

// packageOf are a policy's calls by their names.
func packageOf(policy int) map[string]any {
	switch policy {
	case api.LRU:
		return map[string]any{"New": lru.New, "Touch": lru.Touch, "Admit": lru.Admit, "Drop": lru.Drop, "Resize": lru.Resize, "Has": lru.Has, "Keys": lru.Keys, "Ghosts": lru.Ghosts}
	case api.TwoQ:
		return map[string]any{"New": twoq.New, "Touch": twoq.Touch, "Admit": twoq.Admit, "Drop": twoq.Drop, "Resize": twoq.Resize, "Has": twoq.Has, "Keys": twoq.Keys, "Ghosts": twoq.Ghosts}
	case api.S3:
		return map[string]any{"New": sthree.New, "Touch": sthree.Touch, "Admit": sthree.Admit, "Drop": sthree.Drop, "Resize": sthree.Resize, "Has": sthree.Has, "Keys": sthree.Keys, "Ghosts": sthree.Ghosts}
	case api.ARC:
		return map[string]any{"New": arc.New, "Touch": arc.Touch, "Admit": arc.Admit, "Drop": arc.Drop, "Resize": arc.Resize, "Has": arc.Has, "Keys": arc.Keys, "Ghosts": arc.Ghosts}
	case api.LIRS:
		return map[string]any{"New": lirs.New, "Touch": lirs.Touch, "Admit": lirs.Admit, "Drop": lirs.Drop, "Resize": lirs.Resize, "Has": lirs.Has, "Keys": lirs.Keys, "Ghosts": lirs.Ghosts}
	}
	panic("no policy")
}

// fieldName is that of the field that a policy's state stands in.
func fieldName(policy int) string {
	return []string{"Lru", "Twoq", "Sthree", "Arc", "Lirs"}[policy-1]
}

// held is what a model knows of a key: its value, and when it was put as a new one.
type held struct {
	val  uint64
	came int
}

// model is a cache told plainly: the policy's package says which keys are there, and a map what they have.
type model struct {
	policy int
	calls  map[string]any
	state  any
	held   map[uint64]held
	now    int
	counts api.Counts
}

func newModel(policy, c int) *model {
	m := &model{policy: policy, calls: packageOf(policy), held: map[uint64]held{}}
	m.state = m.call("New", c)[0]
	return m
}

// modelOf has what a state has.
func modelOf(s State) *model {
	m := newModel(s.Policy, 1)
	m.state = reflect.ValueOf(s).FieldByName(fieldName(s.Policy)).Interface()
	for _, p := range s.Pairs {
		m.lay(p.Key, p.Val)
	}
	m.counts = s.Counts
	return m
}

// call is one of the policy's package.
func (m *model) call(name string, with ...any) []any {
	var in []reflect.Value
	for _, x := range with {
		in = append(in, reflect.ValueOf(x))
	}
	var out []any
	for _, x := range reflect.ValueOf(m.calls[name]).Call(in) {
		out = append(out, x.Interface())
	}
	return out
}

func (m *model) has(k uint64) bool { return m.call("Has", m.state, k)[0].(bool) }

func (m *model) keys() []uint64 { return m.call("Keys", m.state)[0].([]uint64) }

func (m *model) ghosts() int { return m.call("Ghosts", m.state)[0].(int) }

func (m *model) capacity() int { return int(reflect.ValueOf(m.state).FieldByName("C").Int()) }

func (m *model) touch(k uint64) { m.state = m.call("Touch", m.state, k)[0] }

// lay has a key come as a new one.
func (m *model) lay(k, v uint64) {
	m.now++
	m.held[k] = held{v, m.now}
}

// leave has keys go that were evicted, and counts them.
func (m *model) leave(told []any) []api.Pair {
	m.state = told[0]
	var out []api.Pair
	for _, k := range told[1].([]uint64) {
		out = append(out, api.Pair{Key: k, Val: m.held[k].val})
		delete(m.held, k)
		m.counts.Evicted++
	}
	return out
}

// follow takes an operation as the words of P13.2 have it.
func (m *model) follow(o api.Op) api.Answer {
	switch o.Kind {
	case api.Get:
		if !m.has(o.Key) {
			m.counts.Misses++
			return api.Answer{}
		}
		m.counts.Hits++
		m.touch(o.Key)
		return api.Answer{Hit: true, Val: m.held[o.Key].val}
	case api.Put:
		if m.has(o.Key) {
			was := m.held[o.Key]
			m.held[o.Key] = held{o.Val, was.came}
			m.touch(o.Key)
			return api.Answer{Hit: true, Val: was.val}
		}
		out := m.leave(m.call("Admit", m.state, o.Key))
		m.lay(o.Key, o.Val)
		return api.Answer{Out: out}
	case api.Delete:
		was, there := m.held[o.Key]
		delete(m.held, o.Key)
		m.state = m.call("Drop", m.state, o.Key)[0]
		return api.Answer{Hit: there, Val: was.val}
	case api.Resize:
		if o.N < 1 || o.N > 1048576 {
			return api.Answer{Err: api.ErrConfig}
		}
		return api.Answer{Out: m.leave(m.call("Resize", m.state, o.N))}
	case api.Len:
		return api.Answer{N: len(m.keys())}
	}
	return api.Answer{Err: api.ErrOp}
}

// written is the model's state, with its pairs written out.
func (m *model) written() State {
	s := State{Policy: m.policy, Counts: m.counts}
	reflect.ValueOf(&s).Elem().FieldByName(fieldName(m.policy)).Set(reflect.ValueOf(m.state))
	for k, h := range m.held {
		s.Pairs = append(s.Pairs, api.Pair{Key: k, Val: h.val})
	}
	slices.SortFunc(s.Pairs, func(a, b api.Pair) int { return m.held[a.Key].came - m.held[b.Key].came })
	return s
}

// fits holds a state, and all that is asked of it, against the model, and against what follows: P13.4.
func fits(t *testing.T, what string, s State, m *model) {
	t.Helper()
	same(t, what, s, m.written())
	same(t, what+", Keys", Keys(s), m.keys())
	same(t, what+", Ghosts", Ghosts(s), m.ghosts())
	same(t, what+", Capacity", Capacity(s), m.capacity())
	if len(s.Pairs) > Capacity(s) {
		t.Errorf("%s: %d pairs of %d", what, len(s.Pairs), Capacity(s))
	}
	var of []uint64
	for _, p := range s.Pairs {
		of = append(of, p.Key)
	}
	keys := slices.Clone(Keys(s))
	slices.Sort(of)
	slices.Sort(keys)
	same(t, what+", the pairs' keys", of, keys)
	if len(slices.Compact(keys)) != len(s.Pairs) {
		t.Errorf("%s: a key is twice: %v", what, s)
	}
}

// triedOps are all sorts of operations, with keys that are tried, and with what is of no use to them.
func triedOps() []api.Op {
	var all []api.Op
	for i, k := range []uint64{0, 1, 1 << 32, greatest, 1<<32 | 1} {
		all = append(all, api.Op{Kind: api.Get, Key: k, Val: 77, N: 1}, api.Op{Kind: api.Delete, Key: k, Val: 77, N: -1},
			api.Op{Kind: api.Put, Key: k, Val: uint64(i) * 10, N: 2}, api.Op{Kind: api.Put, Key: k, Val: greatest, N: 1048577})
	}
	for _, n := range []int{math.MinInt, -1, 0, 1, 2, 3, 1048577, math.MaxInt} {
		all = append(all, api.Op{Kind: api.Resize, N: n, Key: 1, Val: 77})
	}
	all = append(all, api.Op{Kind: api.Len, Key: 1, Val: 77, N: 1})
	for _, kind := range []int{math.MinInt, -1, 0, 6, math.MaxInt} {
		all = append(all, api.Op{Kind: kind, Key: 1, Val: 77, N: 1})
	}
	return all
}

// walk goes from the states of a policy and capacities 1 to 3 through all that they lead to, the nearest ones first, up to so many; each is met once, however it is counted.
func walk(policy, most int, visit func(s State)) {
	var states []State
	met := map[string]bool{}
	meet := func(s State) {
		name := s
		name.Counts = api.Counts{}
		if text := fmt.Sprint(name); !met[text] && Capacity(s) <= 3 {
			met[text] = true
			states = append(states, s)
		}
	}
	for c := 1; c <= 3; c++ {
		s, _ := New(policy, c)
		meet(s)
	}
	for i := 0; i < len(states) && i < most; i++ {
		visit(states[i])
		for _, o := range triedOps() {
			next, _ := Step(states[i], o)
			meet(next)
		}
	}
}

// eachPolicy runs a test of every policy, all at once.
func eachPolicy(t *testing.T, test func(t *testing.T, policy int)) {
	for _, policy := range five {
		t.Run(fieldName(policy), func(t *testing.T) {
			t.Parallel()
			test(t, policy)
		})
	}
}

// P13.2 to P13.4: of small states that come of calls, and behind each operation, all is as the model has it.
func TestManyStates(t *testing.T) {
	eachPolicy(t, func(t *testing.T, policy int) {
		walk(policy, 1000, func(s State) {
			if t.Failed() {
				return
			}
			fits(t, "ahead", s, modelOf(s))
			for _, o := range triedOps() {
				m := modelOf(s)
				want := m.follow(o)
				got, a := Step(s, o)
				what := fmt.Sprintf("%v of %v", o, s)
				same(t, what+", the answer", a, want)
				fits(t, what, got, m)
			}
		})
	})
}

// someOp is an operation by chance, of so many keys.
func someOp(r *rand.Rand, keys int) api.Op {
	o := api.Op{Key: uint64(r.IntN(keys)), Val: r.Uint64() >> r.IntN(64), N: r.IntN(keys+2) - 1}
	if o.Key == 3 {
		o.Key = greatest
	}
	switch n := r.IntN(100); {
	case n < 40:
		o.Kind = api.Get
	case n < 85:
		o.Kind = api.Put
	case n < 91:
		o.Kind = api.Delete
	case n < 95:
		o.Kind = api.Resize
	case n < 98:
		o.Kind = api.Len
	default:
		o.Kind = []int{-1, 0, 6}[r.IntN(3)]
	}
	return o
}

// P13.1 to P13.4: long scripts, step by step as the model, of greater capacities.
func TestScripts(t *testing.T) {
	eachPolicy(t, func(t *testing.T, policy int) {
		for seed := range uint64(30) {
			r := rand.New(rand.NewPCG(seed, uint64(policy)))
			keys := 4 + r.IntN(60)
			c := 1 + r.IntN(keys)
			s, err := New(policy, c)
			if err != nil {
				t.Fatal(err)
			}
			m := newModel(policy, c)
			for range 500 {
				o := someOp(r, keys)
				var a api.Answer
				s, a = Step(s, o)
				same(t, fmt.Sprint(o, ", the answer"), a, m.follow(o))
				fits(t, fmt.Sprint(o), s, m)
			}
			if t.Failed() {
				return
			}
		}
	})
}

// P6, P13.2: whatever there is, a Resize evicts just as many as are too many, and more room evicts none.
func TestResizeEvictsJustAsMany(t *testing.T) {
	eachPolicy(t, func(t *testing.T, policy int) {
		r := rand.New(rand.NewPCG(6, uint64(policy)))
		s, _ := New(policy, 150)
		for range 1500 {
			o := someOp(r, 250)
			ahead := len(s.Pairs)
			next, a := Step(s, o)
			if o.Kind == api.Resize && a.Err == api.OK && (len(a.Out) != max(ahead-o.N, 0) || len(next.Pairs) != min(ahead, o.N)) {
				t.Errorf("%v of %d keys: %d were evicted, %d are there", o, ahead, len(a.Out), len(next.Pairs))
			}
			s = next
		}
	})
}
