package machine

import (
	"hopper/api"
	"hopper/arc"
	"hopper/lirs"
	"hopper/lru"
	"hopper/sthree"
	"hopper/twoq"
)

// calls are those of a policy's package, in its chapter's turn, of its own kind of state; and the field of ours that this stands in.
type calls[S any] struct {
	field    func(s *State) *S
	start    func(c int) S
	touch    func(s S, k uint64) S
	admit    func(s S, k uint64) (S, []uint64)
	drop     func(s S, k uint64) S
	resize   func(s S, c int) (S, []uint64)
	has      func(s S, k uint64) bool
	keys     func(s S) []uint64
	ghosts   func(s S) int
	capacity func(s S) int
}

// policy is the same calls, of a whole state: of which policy they are is asked but once then.
type policy struct {
	start    func(s *State, c int)
	own      func(s *State)
	touch    func(s *State, k uint64)
	admit    func(s *State, k uint64) []uint64
	drop     func(s *State, k uint64)
	resize   func(s *State, c int) []uint64
	has      func(s *State, k uint64) bool
	keys     func(s *State) []uint64
	ghosts   func(s *State) int
	capacity func(s *State) int
}

// over has a policy's calls go to its field. A state is made to own its lists by a resize to the capacity that it has: that evicts nothing, and has nothing be forgotten.
func over[S any](c calls[S]) policy {
	resize := func(s *State, n int) (evicted []uint64) {
		at := c.field(s)
		*at, evicted = c.resize(*at, n)
		return evicted
	}
	return policy{
		start: func(s *State, n int) { *c.field(s) = c.start(n) },
		own:   func(s *State) { resize(s, c.capacity(*c.field(s))) },
		touch: func(s *State, k uint64) {
			at := c.field(s)
			*at = c.touch(*at, k)
		},
		admit: func(s *State, k uint64) (evicted []uint64) {
			at := c.field(s)
			*at, evicted = c.admit(*at, k)
			return evicted
		},
		drop: func(s *State, k uint64) {
			at := c.field(s)
			*at = c.drop(*at, k)
		},
		resize:   resize,
		has:      func(s *State, k uint64) bool { return c.has(*c.field(s), k) },
		keys:     func(s *State) []uint64 { return c.keys(*c.field(s)) },
		ghosts:   func(s *State) int { return c.ghosts(*c.field(s)) },
		capacity: func(s *State) int { return c.capacity(*c.field(s)) },
	}
}

// policyOf is one of the five policies, by its number.
func policyOf(number int) (policy, bool) {
	switch number {
	case api.LRU:
		return over(calls[lru.State]{
			func(s *State) *lru.State { return &s.Lru },
			lru.New, lru.Touch, lru.Admit, lru.Drop, lru.Resize, lru.Has, lru.Keys, lru.Ghosts,
			func(s lru.State) int { return s.C },
		}), true
	case api.TwoQ:
		return over(calls[twoq.State]{
			func(s *State) *twoq.State { return &s.Twoq },
			twoq.New, twoq.Touch, twoq.Admit, twoq.Drop, twoq.Resize, twoq.Has, twoq.Keys, twoq.Ghosts,
			func(s twoq.State) int { return s.C },
		}), true
	case api.S3:
		return over(calls[sthree.State]{
			func(s *State) *sthree.State { return &s.Sthree },
			sthree.New, sthree.Touch, sthree.Admit, sthree.Drop, sthree.Resize, sthree.Has, sthree.Keys, sthree.Ghosts,
			func(s sthree.State) int { return s.C },
		}), true
	case api.ARC:
		return over(calls[arc.State]{
			func(s *State) *arc.State { return &s.Arc },
			arc.New, arc.Touch, arc.Admit, arc.Drop, arc.Resize, arc.Has, arc.Keys, arc.Ghosts,
			func(s arc.State) int { return s.C },
		}), true
	case api.LIRS:
		return over(calls[lirs.State]{
			func(s *State) *lirs.State { return &s.Lirs },
			lirs.New, lirs.Touch, lirs.Admit, lirs.Drop, lirs.Resize, lirs.Has, lirs.Keys, lirs.Ghosts,
			func(s lirs.State) int { return s.C },
		}), true
	}
	return policy{}, false
}
