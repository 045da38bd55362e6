package class_test

import (
	"math"
	"testing"

	"lockfast/class"
)

// wrong are sizes that no object may have, or classes that there aren't.
var wrong = []int{math.MinInt, math.MinInt + 1, -1 << 40, -4, -3, -2, -1, 4097, 4098, 65536, 1 << 40, math.MaxInt - 2, math.MaxInt - 1, math.MaxInt}

func TestBlocks(t *testing.T) {
	words, many := []int{4, 8, 16}, []int{8, 4, 2}
	for c := range 3 {
		if class.Block(c) != words[c] || class.Many(c) != many[c] {
			t.Errorf("class %d: %d blocks of %d", c, class.Many(c), class.Block(c))
		}
	}
	for _, c := range append([]int{3, 4}, wrong...) {
		if class.Block(c) != 0 || class.Many(c) != 0 {
			t.Errorf("class %d: %d blocks of %d", c, class.Many(c), class.Block(c))
		}
	}
	if class.Classes != 3 {
		t.Error(class.Classes)
	}
}

func TestSizes(t *testing.T) {
	last := 0
	for size := range 4097 {
		of, chunks, room := -1, 0, 0
		switch {
		case size <= 2:
			of, room = 0, 4
		case size <= 6:
			of, room = 1, 8
		case size <= 14:
			of, room = 2, 16
		default:
			for room < size+2 {
				chunks++
				room += 32
			}
		}
		if !class.Right(size) || class.Of(size) != of || class.Chunks(size) != chunks || class.Room(size) != room {
			t.Errorf("size %d: %v, class %d, %d chunks, room %d; not %d, %d, %d", size, class.Right(size), class.Of(size), class.Chunks(size), class.Room(size), of, chunks, room)
		}
		if (class.Of(size) >= 0) == (class.Chunks(size) > 0) {
			t.Errorf("size %d has class and chunks, or neither", size)
		}
		if class.Room(size) < last || class.Room(size) < size+2 {
			t.Errorf("size %d has room %d", size, class.Room(size))
		}
		last = class.Room(size)
	}
}

func TestWrongSizes(t *testing.T) {
	for _, size := range wrong {
		if class.Right(size) || class.Of(size) != -1 || class.Chunks(size) != 0 || class.Room(size) != 0 {
			t.Errorf("size %d: %v, class %d, %d chunks, room %d", size, class.Right(size), class.Of(size), class.Chunks(size), class.Room(size))
		}
	}
}
