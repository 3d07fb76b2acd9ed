package mix

import (
	"math"
	"math/big"
	"testing"
)

// keys are the edges, each single bit with its neighbours, and many that lie scattered.
func keys() []uint64 {
	all := []uint64{0, 1, 2, 3, 1<<32 - 1, 1 << 32, 1<<32 + 1, 1<<63 - 1, 1 << 63, math.MaxUint64 - 1, math.MaxUint64, factor, inverse}
	for bit := range 64 {
		all = append(all, 1<<bit, 1<<bit-1, 1<<bit+1, ^uint64(1<<bit))
	}
	scattered := uint64(88172645463325252)
	for range 2000 {
		scattered ^= scattered << 13
		scattered ^= scattered >> 7
		scattered ^= scattered << 17
		all = append(all, scattered)
	}
	return all
}

// notSizes are numbers that are no size: 0, below 0, no power of two, above 2^30.
func notSizes() []int {
	all := []int{0, -1, -2, -8, math.MinInt32, math.MinInt64, 1<<30 - 1, 1<<30 + 1, 1<<31 - 1, 1 << 31, 1 << 32, 1 << 40, 1 << 62, math.MaxInt64}
	for bit := 2; bit < 31; bit++ {
		all = append(all, 1<<bit-1, 1<<bit+1, -(1 << bit))
	}
	return all
}

// product is a times the number b of base 10, modulo 2^64, told without words that wrap round.
func product(a uint64, b string) uint64 {
	times, _ := new(big.Int).SetString(b, 10)
	times.Mul(times, new(big.Int).SetUint64(a))
	return times.Mod(times, new(big.Int).Lsh(big.NewInt(1), 64)).Uint64()
}

// folded is w, bit by bit exclusive or w by 2^32, rounded down.
func folded(w uint64) uint64 {
	down := new(big.Int).Div(new(big.Int).SetUint64(w), big.NewInt(1<<32))
	return down.Xor(down, new(big.Int).SetUint64(w)).Uint64()
}

// P2.1
func TestMixOfSomeKeys(t *testing.T) {
	for _, c := range []struct{ key, word uint64 }{
		{0, 0},
		{1, 0x9e3779b9e17d05ac},
		{2, 0x3c6ef372c2fa0b58},
		{math.MaxUint64, 0x61c88646e17d05ad},
		{1 << 63, 0x8000000080000000},
		{1 << 32, 0x7f4a7c157f4a7c15},
		{inverse, 1},
	} {
		if got := Mix(c.key); got != c.word {
			t.Errorf("Mix of %d: %#x, not %#x", c.key, got, c.word)
		}
	}
}

// P2.1
func TestUnmixOfSomeWords(t *testing.T) {
	for _, c := range []struct{ word, key uint64 }{
		{0, 0},
		{1, 17428512612931826493},
		{0x9e3779b9e17d05ac, 1},
		{0x61c88646e17d05ad, math.MaxUint64},
		{math.MaxUint64, product(0xffffffff00000000, "17428512612931826493")},
		{1 << 32, product(1<<32+1, "17428512612931826493")},
		{1 << 63, product(1<<63+1<<31, "17428512612931826493")},
	} {
		if got := Unmix(c.word); got != c.key {
			t.Errorf("Unmix of %#x: %d, not %d", c.word, got, c.key)
		}
	}
}

// P2.1: as the chapter has it, by numbers of any length.
func TestMixAndUnmixAreTheirFormulas(t *testing.T) {
	for _, k := range keys() {
		if got, want := Mix(k), folded(product(k, "11400714819323198485")); got != want {
			t.Errorf("Mix of %d: %d, not %d", k, got, want)
		}
		if got, want := Unmix(k), product(folded(k), "17428512612931826493"); got != want {
			t.Errorf("Unmix of %d: %d, not %d", k, got, want)
		}
	}
}

// P2.2
func TestHomeIsMixModuloSize(t *testing.T) {
	for bit := range 31 {
		size := 1 << bit
		for _, k := range keys() {
			want := int(folded(product(k, "11400714819323198485")) % uint64(size))
			if got := Home(k, size); got != want || got < 0 || got >= size {
				t.Errorf("Home of %d, of %d: %d, not %d", k, size, got, want)
			}
		}
	}
}

// P2.2
func TestHomeOfSomeKeys(t *testing.T) {
	for _, c := range []struct {
		key        uint64
		size, home int
	}{
		{0, 1, 0}, {1, 1, 0}, {math.MaxUint64, 1, 0},
		{0, 2, 0}, {1, 2, 0}, {math.MaxUint64, 2, 1},
		{1, 8, 4}, {2, 8, 0}, {math.MaxUint64, 8, 5},
		{1, 16, 12}, {math.MaxUint64, 16, 13},
		{0, 1 << 30, 0}, {1, 1 << 30, 0x217d05ac}, {math.MaxUint64, 1 << 30, 0x217d05ad},
	} {
		if got := Home(c.key, c.size); got != c.home {
			t.Errorf("Home of %d, of %d: %d, not %d", c.key, c.size, got, c.home)
		}
	}
}

// P2.2: of a size that is none.
func TestHomeOfNoSize(t *testing.T) {
	for _, size := range notSizes() {
		for _, k := range []uint64{0, 1, 2, 12345, math.MaxUint64} {
			if got := Home(k, size); got != 0 {
				t.Errorf("Home of %d, of %d: %d", k, size, got)
			}
		}
	}
}

// P2.2: all pairs of places of small sizes, by going there one step after the other.
func TestApartIsHowManySteps(t *testing.T) {
	for _, size := range []int{1, 2, 4, 8, 64} {
		for home := range size {
			at := home
			for steps := range size {
				if got := Apart(home, at, size); got != steps {
					t.Errorf("Apart of %d and %d, of %d: %d, not %d", home, at, size, got, steps)
				}
				at++
				if at == size {
					at = 0
				}
			}
		}
	}
}

// P2.2
func TestApartOfSomePlaces(t *testing.T) {
	const most = 1 << 30
	for _, c := range []struct{ home, at, size, steps int }{
		{6, 1, 8, 3},
		{1, 6, 8, 5},
		{0, 0, 1, 0},
		{0, 1, 2, 1}, {1, 0, 2, 1}, {1, 1, 2, 0},
		{0, 7, 8, 7}, {7, 0, 8, 1}, {7, 7, 8, 0}, {3, 2, 8, 7},
		{0, 0, most, 0}, {most - 1, most - 1, most, 0},
		{0, most - 1, most, most - 1}, {most - 1, 0, most, 1},
		{1, 0, most, most - 1}, {most / 2, most/2 - 1, most, most - 1},
		{123456789, 987654321, most, 864197532}, {987654321, 123456789, most, most - 864197532},
	} {
		if got := Apart(c.home, c.at, c.size); got != c.steps {
			t.Errorf("Apart of %d and %d, of %d: %d, not %d", c.home, c.at, c.size, got, c.steps)
		}
	}
}

// P2.2: of every size, from the edges' places.
func TestApartOfEverySize(t *testing.T) {
	for bit := 1; bit < 31; bit++ {
		size := 1 << bit
		last := size - 1
		if Apart(0, last, size) != last || Apart(last, 0, size) != 1 || Apart(last, last, size) != 0 || Apart(0, 0, size) != 0 {
			t.Errorf("size %d", size)
		}
	}
}

// P2.2: of a size that is none.
func TestApartOfNoSize(t *testing.T) {
	for _, size := range notSizes() {
		for _, c := range [][2]int{{0, 0}, {0, 1}, {1, 0}, {6, 1}, {1, 6}, {-3, 5}} {
			if got := Apart(c[0], c[1], size); got != 0 {
				t.Errorf("Apart of %d and %d, of %d: %d", c[0], c[1], size, got)
			}
		}
	}
}

// P2.3
func TestMixAndUnmixUndoEachOther(t *testing.T) {
	for _, k := range keys() {
		if got := Unmix(Mix(k)); got != k {
			t.Errorf("%d mixed and unmixed: %d", k, got)
		}
		if got := Mix(Unmix(k)); got != k {
			t.Errorf("%d unmixed and mixed: %d", k, got)
		}
	}
}

// P2.3
func TestNoTwoKeysMixToTheSame(t *testing.T) {
	from := map[uint64]uint64{}
	ask := func(k uint64) {
		w := Mix(k)
		if other, ok := from[w]; ok && other != k {
			t.Errorf("%d and %d both mix to %d", other, k, w)
		}
		from[w] = k
	}
	for _, k := range keys() {
		ask(k)
	}
	for k := range uint64(1 << 16) {
		ask(k)
		ask(k << 32)
		ask(k << 48)
		ask(math.MaxUint64 - k)
	}
}

// P1: whatever is handed in, even places that are none.
func TestNothingPanics(t *testing.T) {
	edges := []int{math.MinInt64, math.MinInt64 + 1, -1, 0, 1, 1 << 30, 1 << 31, math.MaxInt64 - 1, math.MaxInt64}
	for _, size := range append(notSizes(), 1, 2, 8, 1<<30) {
		for _, home := range edges {
			Home(uint64(home), size)
			for _, at := range edges {
				Apart(home, at, size)
			}
		}
	}
}
