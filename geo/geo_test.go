package geo_test

import (
	"math"
	"testing"

	"lockfast/api"
	"lockfast/geo"
)

// odd are numbers that no lane, place or count may be, and edges of those that may.
var odd = []int{math.MinInt, math.MinInt + 1, -1 << 40, -65536, -2, -1, 0, 1, 2, 63, 64, 65, 66, 1 << 16, 1<<16 + 1, 1 << 40, math.MaxInt - 1, math.MaxInt}

// ahead is how many words stand ahead of the table, counted one by one.
func ahead(lanes int) int {
	n := 8 + 1 + 1
	for range lanes {
		n += 1 + 32 + 40
	}
	return n
}

func chunks(g api.Geometry) int {
	if g.Lanes < 1 || g.Lanes > 64 || g.Words < 0 || g.Words > 65536 {
		return 0
	}
	n := 0
	for left := g.Words - ahead(g.Lanes); left >= 33; left -= 33 {
		n++
	}
	return n
}

func geometries() []api.Geometry {
	var l []api.Geometry
	for _, lanes := range append([]int{3, 5, 17}, odd...) {
		first := ahead(min(max(lanes, 0), 70))
		for _, words := range append([]int{first, first + 1, first + 32, first + 33, first + 34, first + 65, first + 66, first + 67, 5000, 65535}, odd...) {
			l = append(l, api.Geometry{Words: words, Lanes: lanes})
		}
	}
	return l
}

func TestRightAndChunks(t *testing.T) {
	for _, g := range geometries() {
		n := chunks(g)
		if got := geo.Right(g); got != (n > 0) {
			t.Errorf("whether %v is right: %v", g, got)
		}
		if got := geo.Chunks(g); got != n {
			t.Errorf("%v has %d chunks, not %d", g, got, n)
		}
	}
}

func TestWhereAllLies(t *testing.T) {
	for _, g := range geometries() {
		n := chunks(g)
		at := 10 + g.Lanes
		for lane := 0; n > 0 && lane < g.Lanes; lane++ {
			if got := geo.Mark(g, lane); got != 10+lane {
				t.Fatalf("%v: the mark of %d is at %d", g, lane, got)
			}
			if got := geo.Log(g, lane); got != (api.Span{From: at, Many: 32}) {
				t.Fatalf("%v: the log of %d is %v", g, lane, got)
			}
			if got := geo.Redo(g, lane); got != (api.Span{From: at + 32, Many: 40}) {
				t.Fatalf("%v: the redo of %d is %v", g, lane, got)
			}
			at += 72
		}
		want := api.Span{}
		if n > 0 {
			want = api.Span{From: at, Many: n}
		}
		if got := geo.Table(g); got != want {
			t.Fatalf("%v: the table is %v, not %v", g, got, want)
		}
		at += n
		for i := range n {
			if got := geo.Chunk(g, i); got != (api.Span{From: at, Many: 32}) {
				t.Fatalf("%v: the chunk %d is %v", g, i, got)
			}
			at += 32
		}
	}
}

func TestNone(t *testing.T) {
	for _, g := range geometries() {
		n := chunks(g)
		for _, i := range append([]int{g.Lanes, n}, odd...) {
			if n == 0 || i < 0 || i >= g.Lanes {
				if geo.Mark(g, i) != -1 || geo.Log(g, i) != (api.Span{}) || geo.Redo(g, i) != (api.Span{}) {
					t.Fatalf("%v has a lane %d", g, i)
				}
			}
			if i < 0 || i >= n {
				if got := geo.Chunk(g, i); got != (api.Span{}) {
					t.Fatalf("%v has a chunk %d: %v", g, i, got)
				}
			}
		}
	}
}

func TestOf(t *testing.T) {
	for _, g := range geometries() {
		n := chunks(g)
		places := append([]int{}, odd...)
		first := 0
		if n > 0 {
			first = ahead(g.Lanes) + n
			for at := -2; at < g.Words+2; at++ {
				places = append(places, at)
			}
		}
		for _, at := range places {
			chunk, word := -1, -1
			if n > 0 && at >= first && at < first+32*n {
				chunk, word = (at-first)/32, (at-first)%32
			}
			if c, w := geo.Of(g, at); c != chunk || w != word {
				t.Fatalf("%v: %d is in %d, %d, not %d, %d", g, at, c, w, chunk, word)
			}
		}
	}
}

func TestNoneInCommon(t *testing.T) {
	for _, g := range geometries() {
		if chunks(g) == 0 {
			continue
		}
		l := []api.Span{{From: 0, Many: api.HeadWords}, {From: geo.RootAt, Many: 1}, {From: geo.EpochAt, Many: 1}, geo.Table(g)}
		for i := range g.Lanes {
			l = append(l, api.Span{From: geo.Mark(g, i), Many: 1}, geo.Log(g, i), geo.Redo(g, i))
		}
		for i := range geo.Chunks(g) {
			l = append(l, geo.Chunk(g, i))
		}
		seen := make([]bool, g.Words)
		for _, s := range l {
			for at := s.From; at < s.From+s.Many; at++ {
				if at < 0 || at >= g.Words || seen[at] {
					t.Fatalf("%v: %d is twice, or isn't the pool's", g, at)
				}
				seen[at] = true
			}
		}
	}
}

func TestExample(t *testing.T) {
	g := api.Geometry{Words: 149, Lanes: 1}
	if geo.Chunks(g) != 2 || geo.Chunk(g, 0).From != 85 || geo.Table(g) != (api.Span{From: 83, Many: 2}) {
		t.Errorf("%d chunks from %v on, table %v", geo.Chunks(g), geo.Chunk(g, 0), geo.Table(g))
	}
}
