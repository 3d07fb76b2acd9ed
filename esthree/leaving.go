package esthree

// evict has keys leave until no more than so many stay, and tells them, the one that was evicted first ahead. None can leave where none is: Admit asks a Cache without a store for less than none.
func (x *Cache) evict(most int) []uint64 {
	var evicted []uint64
	for range x.keys.Len(smallQueue) + x.keys.Len(mainQueue) - max(most, 0) {
		evicted = append(evicted, x.evictOne())
	}
	return evicted
}

// evictOne has just one key leave. Small may have none to give, as all of its keys were used, and went to Main: one of those that are there now leaves instead.
func (x *Cache) evictOne() uint64 {
	switch {
	case x.keys.Len(smallQueue) >= target(x.capacity) || x.keys.Len(mainQueue) == 0:
		if k, ok := x.evictFromSmall(); ok {
			return k
		}
		fallthrough
	default:
		return x.evictFromMain()
	}
}

// evictFromSmall tells whether a key was evicted from Small, and which. It only changes its queue then, and Ghost's last key goes at once, so that the store never has more keys meanwhile than it had ahead.
func (x *Cache) evictFromSmall() (uint64, bool) {
	for range x.keys.Len(smallQueue) {
		k, _ := x.keys.Back(smallQueue)
		if x.keys.Flag(k) <= 1 {
			x.keys.Move(ghostQueue, k)
			x.forget()
			return k, true
		}
		x.promote(k, 0)
	}
	return 0, false
}

// evictFromMain has keys go round till one has no use left.
func (x *Cache) evictFromMain() uint64 {
	for {
		k, _ := x.keys.Back(mainQueue)
		freq := x.keys.Flag(k)
		if freq <= 0 {
			x.keys.Remove(k)
			return k
		}
		x.promote(k, freq-1)
	}
}

// promote takes a key to the front of Main, with some uses left.
func (x *Cache) promote(k uint64, freq int) {
	x.keys.SetFlag(k, freq)
	x.keys.Move(mainQueue, k)
}

// forget takes the keys out of Ghost that are remembered above the room, the one that was evicted first ahead.
func (x *Cache) forget() {
	for range x.keys.Len(ghostQueue) - room(x.capacity) {
		k, _ := x.keys.Back(ghostQueue)
		x.keys.Remove(k)
	}
}

// target is how many keys Small keeps while Main has others to evict.
func target(c int) int {
	return max(c/10, 1)
}

// room is how many keys are remembered at most.
func room(c int) int {
	return c - target(c)
}
