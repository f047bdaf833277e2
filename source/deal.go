package source

import "slices"

// Deal answers how many are taken of each heap, if at most most are taken round by round, in each round one of each
// heap that has some left.
func Deal[T int | int64](heaps []T, most T) []T {
	whole, more := rounds(heaps, most)
	dealt := make([]T, len(heaps))
	for i, heap := range heaps {
		dealt[i] = max(min(heap, whole), 0)
		if heap > whole && more > 0 {
			dealt[i]++
			more--
		}
	}
	return dealt
}

// rounds answers how many rounds are whole till most are taken or none is left, and how many are taken in the round
// behind these.
func rounds[T int | int64](heaps []T, most T) (whole, more T) {
	most = max(most, 0)
	// Rising, so that the heaps that end first are ahead: as long as none ends, each round takes as many.
	rising := slices.Sorted(slices.Values(heaps))
	for i, heap := range rising {
		if heap <= whole {
			continue
		}
		each := T(len(rising) - i)
		// Parted, as what all of these rounds take may be more than a number has room for.
		if heap-whole > most/each {
			return whole + most/each, most % each
		}
		most -= (heap - whole) * each
		whole = heap
	}
	return whole, 0
}
