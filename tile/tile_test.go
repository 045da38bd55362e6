package tile_test

import (
	"math/rand"
	"slices"
	"sort"
	"testing"

	"lockfast/api"
	"lockfast/tile"
)

var (
	many  = [3]int{8, 4, 2}
	words = [3]int{4, 8, 16}
)

// word is a chunk's, of one that can be.
func word(c api.Chunk) uint64 {
	return uint64(c.Kind) + uint64(c.Class)*8 + uint64(c.Lane)*32 + uint64(c.Many)*2048 + c.Bits*(1<<24)
}

func table(l []api.Chunk) []uint64 {
	var t []uint64
	for _, c := range l {
		t = append(t, word(c))
	}
	return t
}

// right are the chunks of a table that is right; what comes of it is told by chance.
func right(r *rand.Rand) []api.Chunk {
	var l []api.Chunk
	for range r.Intn(12) {
		switch r.Intn(6) {
		case 0:
			l = append(l, api.Chunk{})
		case 1, 2:
			class := r.Intn(3)
			bits := uint64(r.Intn(1 << many[class]))
			if r.Intn(3) == 0 {
				bits = 0
			}
			l = append(l, api.Chunk{Kind: api.Run, Class: class, Bits: bits})
		case 3, 4:
			n := 1 + r.Intn(4)
			l = append(l, api.Chunk{Kind: api.Huge, Many: n})
			for range n - 1 {
				l = append(l, api.Chunk{Kind: api.Tail})
			}
		case 5:
			l = append(l, api.Chunk{Kind: api.Log, Lane: r.Intn(3), Many: r.Intn(4)})
		}
	}
	return l
}

func TestRightTables(t *testing.T) {
	r := rand.New(rand.NewSource(11))
	for range 3000 {
		l := right(r)
		tab := table(l)
		kept := slices.Clone(tab)
		if got, ok := tile.Chunks(tab); !ok || !slices.Equal(got, l) {
			t.Fatalf("%x are %v, %v", tab, got, ok)
		}
		if !tile.Right(tab) {
			t.Fatalf("%v isn't right", l)
		}
		var blocks []api.Block
		for i, c := range l {
			if c.Kind == api.Huge {
				blocks = append(blocks, api.Block{Chunk: i, Words: 32 * c.Many})
			}
			for b := 0; c.Kind == api.Run && b < many[c.Class]; b++ {
				if c.Bits>>uint(b)&1 == 1 {
					blocks = append(blocks, api.Block{Chunk: i, Index: b, Words: words[c.Class]})
				}
			}
		}
		if got := tile.Blocks(tab); !slices.Equal(got, blocks) {
			t.Fatalf("the blocks of %v are %v, not %v", l, got, blocks)
		}
		if got := tile.Rows(tab); !slices.Equal(got, rows(l)) {
			t.Fatalf("the rows of %v are %v, not %v", l, got, rows(l))
		}
		for lane := -1; lane < 4; lane++ {
			if got := tile.Logs(tab, lane); !slices.Equal(got, logs(l, lane)) {
				t.Fatalf("the logs of %d in %v are %v, not %v", lane, l, got, logs(l, lane))
			}
		}
		checkAll(t, l)
		if !slices.Equal(tab, kept) {
			t.Fatal("what was handed in is changed")
		}
	}
}

func rows(l []api.Chunk) []api.Span {
	var out []api.Span
	had := func(i int) bool {
		return i >= 0 && i < len(l) && (l[i].Kind == api.Free || l[i].Kind == api.Run && l[i].Bits == 0)
	}
	for i := range l {
		if had(i) && !had(i-1) {
			out = append(out, api.Span{From: i})
		}
		if had(i) {
			out[len(out)-1].Many++
		}
	}
	return out
}

func logs(l []api.Chunk, lane int) []int {
	var out []int
	for i, c := range l {
		if c.Kind == api.Log && c.Lane == lane {
			out = append(out, i)
		}
	}
	sort.Slice(out, func(a, b int) bool {
		return l[out[a]].Many < l[out[b]].Many || l[out[a]].Many == l[out[b]].Many && out[a] < out[b]
	})
	return out
}

// checkAll tells whether blocks, rows, logs and what is left of runs are all words of the chunks, and none twice.
func checkAll(t *testing.T, l []api.Chunk) {
	t.Helper()
	tab := table(l)
	seen := make([]int, 32*len(l))
	for _, b := range tile.Blocks(tab) {
		for w := range b.Words {
			seen[32*b.Chunk+b.Index*b.Words+w]++
		}
	}
	for _, s := range tile.Rows(tab) {
		for w := range 32 * s.Many {
			seen[32*s.From+w]++
		}
	}
	for lane := range 3 {
		for _, i := range tile.Logs(tab, lane) {
			for w := range 32 {
				seen[32*i+w]++
			}
		}
	}
	for i, n := range seen {
		c := l[i/32]
		left := c.Kind == api.Run && c.Bits != 0 && c.Bits>>uint(i%32/words[c.Class])&1 == 0
		if n != 1 && !left || n != 0 && left {
			t.Fatalf("%v: the word %d is told %d times", l, i, n)
		}
	}
}

func TestRightOrNot(t *testing.T) {
	free, tail, run := api.Chunk{}, api.Chunk{Kind: api.Tail}, api.Chunk{Kind: api.Run, Class: 1, Bits: 5}
	huge := func(n int) api.Chunk { return api.Chunk{Kind: api.Huge, Many: n} }
	for _, x := range []struct {
		l    []api.Chunk
		want bool
	}{
		{nil, true},
		{[]api.Chunk{free}, true},
		{[]api.Chunk{tail}, false},
		{[]api.Chunk{huge(1)}, true},
		{[]api.Chunk{huge(1), tail}, false},
		{[]api.Chunk{huge(2)}, false},
		{[]api.Chunk{huge(2), tail}, true},
		{[]api.Chunk{huge(2), free}, false},
		{[]api.Chunk{huge(2), run}, false},
		{[]api.Chunk{huge(2), huge(1), tail}, false},
		{[]api.Chunk{huge(2), tail, tail}, false},
		{[]api.Chunk{huge(3), tail, run, tail}, false},
		{[]api.Chunk{huge(3), tail, tail, huge(1)}, true},
		{[]api.Chunk{huge(3), tail}, false},
		{[]api.Chunk{huge(8191)}, false},
		{[]api.Chunk{run, tail}, false},
		{[]api.Chunk{free, tail}, false},
		{[]api.Chunk{tail, huge(2), tail}, false},
		{[]api.Chunk{huge(2), tail, free, tail}, false},
		{[]api.Chunk{huge(2), {Kind: api.Log}}, false},
	} {
		if got := tile.Right(table(x.l)); got != x.want {
			t.Errorf("whether %v is right: %v", x.l, got)
		}
		if l, ok := tile.Chunks(table(x.l)); !ok || !slices.Equal(l, x.l) {
			t.Errorf("%v are told as %v", x.l, l)
		}
	}
}

func TestWordsOfNoChunk(t *testing.T) {
	for _, bad := range []uint64{5, 1 << 63, 8, 1 | 3<<3, 2} {
		for i := range 3 {
			tab := []uint64{0, 1, 0}
			tab[i] = bad
			if l, ok := tile.Chunks(tab); ok || len(l) != 0 {
				t.Errorf("%x are chunks: %v", tab, l)
			}
			if tile.Right(tab) {
				t.Errorf("%x is right", tab)
			}
			tile.Blocks(tab)
			tile.Rows(tab)
			tile.Logs(tab, 0)
		}
	}
}

func TestExample(t *testing.T) {
	tab := table([]api.Chunk{{Kind: api.Run, Class: 2, Bits: 2}, {}, {Kind: api.Huge, Many: 2}, {Kind: api.Tail}})
	if got := tile.Blocks(tab); !slices.Equal(got, []api.Block{{Chunk: 0, Index: 1, Words: 16}, {Chunk: 2, Words: 64}}) {
		t.Errorf("%v", got)
	}
	if got := tile.Rows(tab); !slices.Equal(got, []api.Span{{From: 1, Many: 1}}) {
		t.Errorf("%v", got)
	}
}
