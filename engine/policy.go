package engine

import (
	"hopper/api"
	"hopper/earc"
	"hopper/elirs"
	"hopper/elru"
	"hopper/esthree"
	"hopper/etwoq"
)

// policy is what the caches of all policies do: none of its calls is made by asking which one it is.
type policy interface {
	Touch(k uint64)
	Admit(k uint64) []uint64
	Drop(k uint64)
	Resize(c int) []uint64
	Has(k uint64) bool
	Keys() []uint64
	Ghosts() int
	Rooms() (int, int)
}

// policyOf is a policy's cache, by its number; nil of another one.
func policyOf(number, c int) policy {
	switch number {
	case api.LRU:
		return elru.New(c)
	case api.TwoQ:
		return etwoq.New(c)
	case api.S3:
		return esthree.New(c)
	case api.ARC:
		return earc.New(c)
	case api.LIRS:
		return elirs.New(c)
	}
	return nil
}
