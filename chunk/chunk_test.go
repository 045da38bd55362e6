package chunk_test

import (
	"math"
	"testing"

	"lockfast/api"
	"lockfast/chunk"
)

var many = [3]int{8, 4, 2}

// right is the promise's own words.
func right(c api.Chunk) bool {
	switch c.Kind {
	case api.Free, api.Tail:
		return c.Class == 0 && c.Lane == 0 && c.Many == 0 && c.Bits == 0
	case api.Run:
		return c.Class >= 0 && c.Class <= 2 && c.Lane == 0 && c.Many == 0 && c.Bits < 1<<uint(many[c.Class])
	case api.Huge:
		return c.Class == 0 && c.Lane == 0 && c.Many >= 1 && c.Many <= 8191 && c.Bits == 0
	case api.Log:
		return c.Class == 0 && c.Lane >= 0 && c.Lane <= 63 && c.Many >= 0 && c.Many <= 7 && c.Bits == 0
	}
	return false
}

func word(c api.Chunk) uint64 {
	return uint64(c.Kind) + uint64(c.Class)*8 + uint64(c.Lane)*32 + uint64(c.Many)*2048 + c.Bits*(1<<24)
}

func chunks() []api.Chunk {
	var l []api.Chunk
	for _, kind := range []int{math.MinInt, -1, 0, 1, 2, 3, 4, 5, 6, 7, 8, 9, 1 << 32, math.MaxInt} {
		for _, class := range []int{-1, 0, 1, 2, 3, 4, math.MaxInt} {
			for _, lane := range []int{-1, 0, 1, 63, 64, 1 << 40} {
				for _, n := range []int{-1, 0, 1, 2, 7, 8, 100, 8190, 8191, 8192, 1 << 20} {
					for _, bits := range []uint64{0, 1, 2, 3, 4, 5, 15, 16, 255, 256, 1 << 40, math.MaxUint64} {
						l = append(l, api.Chunk{Kind: kind, Class: class, Lane: lane, Many: n, Bits: bits})
					}
				}
			}
		}
	}
	return l
}

func TestRightAndEncode(t *testing.T) {
	n := 0
	for _, c := range chunks() {
		if got := chunk.Right(c); got != right(c) {
			t.Fatalf("whether %v is right: %v", c, got)
		}
		w, e := chunk.Encode(c)
		if !right(c) {
			if w != 0 || e != api.ErrArg {
				t.Fatalf("the word of %v is %x, %v", c, w, e)
			}
			continue
		}
		n++
		if w != word(c) || e != api.OK {
			t.Fatalf("the word of %v is %x, %v", c, w, e)
		}
		if back, ok := chunk.Decode(w); !ok || back != c {
			t.Fatalf("%v is decoded as %v, %v", c, back, ok)
		}
	}
	if n < 20 {
		t.Fatalf("%d chunks alone can be", n)
	}
	if w, _ := chunk.Encode(api.Chunk{Kind: api.Run, Class: 2, Bits: 2}); w != 0x2000011 {
		t.Errorf("the chapter's example: %x", w)
	}
	if chunk.MaxMany != 8191 {
		t.Error(chunk.MaxMany)
	}
}

func checkDecode(t *testing.T, w uint64) {
	t.Helper()
	want := api.Chunk{Kind: int(w & 7), Class: int(w >> 3 & 3), Lane: int(w >> 5 & 63), Many: int(w >> 11 & 8191), Bits: w >> 24 & 255}
	c, ok := chunk.Decode(w)
	if !right(want) || word(want) != w {
		if ok || c != (api.Chunk{}) {
			t.Fatalf("%x is decoded as %v, %v", w, c, ok)
		}
		return
	}
	if !ok || c != want {
		t.Fatalf("%x is decoded as %v, %v", w, c, ok)
	}
}

func TestDecode(t *testing.T) {
	for w := range uint64(1 << 24) {
		if w%37 == 0 || w < 1<<14 {
			checkDecode(t, w)
		}
	}
	for low := range uint64(64) {
		for bits := range uint64(256) {
			checkDecode(t, low|bits<<24)
		}
		for i := range 64 {
			checkDecode(t, low|1<<uint(i))
		}
	}
	for _, w := range []uint64{math.MaxUint64, 1 << 63, 4 | 63<<5 | 7<<11, 4 | 63<<5 | 8<<11, 2 | 8191<<11, 2} {
		checkDecode(t, w)
	}
}

func TestRuns(t *testing.T) {
	for class, n := range many {
		for bits := range uint64(1) << uint(n) {
			c := api.Chunk{Kind: api.Run, Class: class, Bits: bits}
			room := -1
			for i := n - 1; i >= 0; i-- {
				if bits>>uint(i)&1 == 0 {
					room = i
				}
			}
			if chunk.Room(c) != room || chunk.Empty(c) != (bits == 0) {
				t.Fatalf("%v: room %d, empty %v", c, chunk.Room(c), chunk.Empty(c))
			}
			w, _ := chunk.Encode(c)
			for i := range n {
				more, _ := chunk.Encode(api.Chunk{Kind: api.Run, Class: class, Bits: bits | 1<<uint(i)})
				if w|chunk.Bit(i) != more {
					t.Fatalf("%v with the block %d is %x, not %x", c, i, w|chunk.Bit(i), more)
				}
			}
		}
	}
	for _, c := range []api.Chunk{{}, {Kind: api.Huge, Many: 1}, {Kind: api.Tail}, {Kind: api.Log}} {
		if chunk.Empty(c) || chunk.Room(c) != -1 {
			t.Errorf("%v: empty %v, room %d", c, chunk.Empty(c), chunk.Room(c))
		}
	}
}

func TestBit(t *testing.T) {
	for _, i := range []int{math.MinInt, -40, -1, 0, 1, 6, 7, 8, 39, 40, 64, math.MaxInt} {
		want := uint64(0)
		if i >= 0 && i <= 7 {
			want = 1 << uint(24+i)
		}
		if got := chunk.Bit(i); got != want {
			t.Errorf("the bit of %d is %x", i, got)
		}
	}
}

func TestChunksThatCanNotBe(t *testing.T) {
	for _, c := range chunks() {
		chunk.Empty(c)
		chunk.Room(c)
	}
}
