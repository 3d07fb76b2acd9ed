package engine

import (
	"hopper/api"
	"hopper/config"
)

func (e *Engine) step(o api.Op) api.Answer {
	switch o.Kind {
	case api.Get:
		return e.get(o.Key)
	case api.Put:
		return e.put(o.Key, o.Val)
	case api.Delete:
		return e.remove(o.Key)
	case api.Resize:
		return e.resize(o.N)
	case api.Len:
		return api.Answer{N: e.values.Total()}
	}
	return api.Answer{Err: api.ErrOp}
}

func (e *Engine) get(k uint64) api.Answer {
	if !e.policy.Has(k) {
		e.counts.Misses++
		return api.Answer{}
	}
	e.counts.Hits++
	e.policy.Touch(k)
	return api.Answer{Hit: true, Val: e.values.Val(k)}
}

// put counts neither a hit nor a miss, as nobody asked for a value. What is evicted leaves the values ahead of the key that comes, so that they take no more slots than the capacity asks for.
func (e *Engine) put(k, v uint64) api.Answer {
	if e.policy.Has(k) {
		was := e.values.Val(k)
		e.values.SetVal(k, v)
		e.policy.Touch(k)
		return api.Answer{Hit: true, Val: was}
	}
	out := e.leave(e.policy.Admit(k))
	e.values.PushFront(held, k)
	e.values.SetVal(k, v)
	return api.Answer{Out: out}
}

// remove drops a key that isn't there, too: it may be remembered.
func (e *Engine) remove(k uint64) api.Answer {
	a := api.Answer{Hit: e.policy.Has(k), Val: e.values.Val(k)}
	e.policy.Drop(k)
	e.values.Remove(k)
	return a
}

func (e *Engine) resize(n int) api.Answer {
	if wrong := config.May(e.number, n); wrong != nil {
		return api.Answer{Err: config.Code(wrong)}
	}
	e.capacity = n
	return api.Answer{Out: e.leave(e.policy.Resize(n))}
}

// leave takes what keys had out of the values, and tells it, in the keys' turn.
func (e *Engine) leave(keys []uint64) []api.Pair {
	var out []api.Pair
	for _, k := range keys {
		out = append(out, api.Pair{Key: k, Val: e.values.Val(k)})
		e.values.Remove(k)
	}
	return out
}
