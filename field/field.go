// Package field is layer 1: numbers in a word's bits.
package field

import (
	"iter"
	"math/bits"
)

const wordBits = 64

// Fits tells whether bits are ones of a word.
func Fits(at, many int) bool {
	// at and many are not added up: their sum may be more than an int holds.
	return at >= 0 && many >= 1 && many <= wordBits && at <= wordBits-many
}

// Get is the number in some bits.
func Get(w uint64, at, many int) uint64 {
	if !Fits(at, many) {
		return 0
	}
	return lowest(w>>uint(at), many)
}

// Put lays one there.
func Put(w uint64, at, many int, v uint64) uint64 {
	if !Fits(at, many) {
		return w
	}
	hole := lowest(^uint64(0), many) << uint(at)
	return w&^hole | lowest(v, many)<<uint(at)
}

// Ones is how many bits are 1.
func Ones(w uint64, many int) int {
	n := 0
	for range places(lowest(w, many)) {
		n++
	}
	return n
}

// First is the first one that is so.
func First(w uint64, many int, one bool) int {
	if !one {
		w = ^w
	}
	for at := range places(lowest(w, many)) {
		return at
	}
	return -1
}

// Places are those that are 1.
func Places(w uint64, many int) []int {
	var l []int
	for at := range places(lowest(w, many)) {
		l = append(l, at)
	}
	return l
}

// lowest is w with its many lowest bits alone; many is held within a word.
func lowest(w uint64, many int) uint64 {
	held := min(max(many, 0), wordBits)
	if held == wordBits {
		return w
	}
	return w & (uint64(1)<<uint(held) - 1)
}

// places tells w's bits that are 1, rising.
func places(w uint64) iter.Seq[int] {
	return func(yield func(int) bool) {
		for rest := w; rest != 0; rest &= rest - 1 {
			if !yield(bits.TrailingZeros64(rest)) {
				return
			}
		}
	}
}
