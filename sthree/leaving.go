package sthree

import (
	"slices"

	"hopper/seq"
)

// leaving is a state's queues while keys leave them. Main stands turned round, its back first, as items that are put to its front would else have all others move at each step.
type leaving struct {
	target  int
	small   []Item
	main    []Item
	evicted []uint64
	ghosts  []uint64
}

// evict has keys leave a state until no more than so many stay, and tells them, the one that was evicted first ahead. What falls off Ghost's back at the end is what would fall key by key. None can leave where none is, whatever a capacity that may not be asks for.
func evict(s *State, most int) []uint64 {
	l := leaving{target: target(s.C), small: copyOf(s.Small), main: copyOf(s.Main)}
	slices.Reverse(l.main)
	for range len(l.small) + len(l.main) - max(most, 0) {
		l.evictOne()
	}
	slices.Reverse(l.main)
	slices.Reverse(l.ghosts)
	s.Small, s.Main = l.small, l.main
	_, s.Ghost = seq.Fall(slices.Concat(l.ghosts, s.Ghost), room(s.C))
	return l.evicted
}

// evictOne has just one key leave. Small may have none to give, as all of its items were used, and went to Main: one of those that are there now leaves instead.
func (l *leaving) evictOne() {
	switch {
	case len(l.small) >= l.target || len(l.main) == 0:
		if l.evictFromSmall() {
			return
		}
		fallthrough
	default:
		l.evictFromMain()
	}
}

// evictFromSmall tells whether a key was evicted from Small.
func (l *leaving) evictFromSmall() bool {
	for len(l.small) > 0 {
		at := len(l.small) - 1
		last := l.small[at]
		l.small = l.small[:at]
		if last.Freq <= 1 {
			l.evicted = append(l.evicted, last.Key)
			l.ghosts = append(l.ghosts, last.Key)
			return true
		}
		l.main = append(l.main, Item{Key: last.Key})
	}
	return false
}

// evictFromMain has items go round till one has no use left. A Freq that no state has counts as the greatest one, so that it never goes round long.
func (l *leaving) evictFromMain() {
	for len(l.main) > 0 {
		last := l.main[0]
		l.main = l.main[1:]
		if last.Freq <= 0 {
			l.evicted = append(l.evicted, last.Key)
			return
		}
		last.Freq = min(last.Freq, mostFreq) - 1
		l.main = append(l.main, last)
	}
}
