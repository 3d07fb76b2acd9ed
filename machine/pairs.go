package machine

import "hopper/api"

// value is what a key has.
func value(pairs []api.Pair, k uint64) uint64 {
	for _, pair := range pairs {
		if pair.Key == k {
			return pair.Val
		}
	}
	return 0
}

// exchange has a key have another value, and tells the one that it had. Its pair stays where it is, as the key didn't come anew.
func exchange(pairs []api.Pair, k, v uint64) uint64 {
	for i, pair := range pairs {
		if pair.Key == k {
			pairs[i].Val = v
			return pair.Val
		}
	}
	return 0
}

// leave takes keys' pairs out of a state, and tells them, in the keys' turn. The keys are looked up in a map, as many may leave at once; it is asked for single keys alone, so that its order can't show.
func leave(s *State, keys []uint64) []api.Pair {
	left := make([]api.Pair, len(keys))
	turn := map[uint64]int{}
	for i, k := range keys {
		left[i].Key = k
		turn[k] = i
	}
	var stay []api.Pair
	for _, pair := range s.Pairs {
		if i, leaves := turn[pair.Key]; leaves {
			left[i] = pair
		} else {
			stay = append(stay, pair)
		}
	}
	s.Pairs = stay
	return left
}
