package mend_test

import (
	"math/rand"
	"slices"
	"testing"

	"lockfast/api"
	"lockfast/chunk"
	"lockfast/geo"
	"lockfast/mark"
	"lockfast/mend"
	"lockfast/redo"
	"lockfast/super"
	"lockfast/undo"
)

// words is how many a pool of so many lanes and chunks has, with a few behind the chunks.
func words(lanes, chunks int) int { return 10 + 73*lanes + 33*chunks + 5 }

func pool(lanes, chunks int) ([]uint64, api.Geometry) {
	g := api.Geometry{Words: words(lanes, chunks), Lanes: lanes}
	image := make([]uint64, g.Words)
	head, _ := super.Encode(g)
	copy(image, head)
	return image, g
}

func tableAt(g api.Geometry) int { return 10 + 73*g.Lanes }

func chunkAt(g api.Geometry, i int) int { return tableAt(g) + geo.Chunks(g) + 32*i }

func setMark(image []uint64, lane int, m api.Mark) {
	w, _ := mark.Encode(m)
	image[10+lane] = w
}

func setChunk(image []uint64, g api.Geometry, i int, c api.Chunk) {
	w, _ := chunk.Encode(c)
	image[tableAt(g)+i] = w
}

func logWord(lane, number int) api.Chunk {
	return api.Chunk{Kind: api.Log, Lane: lane, Many: number}
}

// lay lays words where a lane's log goes on, piece by piece.
func lay(image []uint64, pieces []api.Span, l []uint64) {
	for _, p := range pieces {
		n := copy(image[p.From:p.From+p.Many], l)
		l = l[n:]
	}
}

func entries(gen uint64, l []api.Entry) []uint64 {
	var out []uint64
	for _, x := range l {
		w, _ := undo.Encode(gen, x)
		out = append(out, w...)
	}
	return out
}

// back are the Sets of entries, the last entry first.
func back(l []api.Entry) []api.Op {
	var out []api.Op
	for i := len(l) - 1; i >= 0; i-- {
		for n, w := range l[i].Old {
			out = append(out, api.Op{At: l[i].At + n, Value: w})
		}
	}
	return out
}

func refused(t *testing.T, image []uint64, g api.Geometry, lane int, why string) {
	t.Helper()
	if l, ok := mend.Lane(image, g, lane); ok || len(l) != 0 {
		t.Errorf("%s: what is done is %v, %v", why, l, ok)
	}
}

func corrupt(t *testing.T, image []uint64, why string) {
	t.Helper()
	if l, e := mend.Mend(image); e != api.ErrCorrupt || len(l) != 0 {
		t.Errorf("%s: mended with %v", why, e)
	}
}

func TestIdle(t *testing.T) {
	image, g := pool(2, 3)
	r := rand.New(rand.NewSource(1))
	for i := 12; i < tableAt(g); i++ {
		image[i] = r.Uint64()
	}
	for i := chunkAt(g, 0); i < len(image); i++ {
		image[i] = r.Uint64()
	}
	setMark(image, 1, api.Mark{Gen: 77})
	image[8], image[9] = 5, 6
	setChunk(image, g, 1, api.Chunk{Kind: api.Tail})
	kept := slices.Clone(image)
	for lane := range 2 {
		if l, ok := mend.Lane(image, g, lane); !ok || len(l) != 0 {
			t.Errorf("%v, %v is done for %d", l, ok, lane)
		}
		if got := mend.Log(image, g, lane); !slices.Equal(got, []api.Span{{From: 12 + 72*lane, Many: 32}}) {
			t.Errorf("the log of %d is %v", lane, got)
		}
	}
	got, e := mend.Mend(image)
	if e != api.OK || !slices.Equal(got, image) {
		t.Errorf("an idle pool is mended to another one, %v", e)
	}
	got[0]++
	if !slices.Equal(image, kept) {
		t.Error("what was handed in is changed")
	}
}

func TestLog(t *testing.T) {
	image, g := pool(3, 6)
	setChunk(image, g, 0, logWord(1, 2))
	setChunk(image, g, 1, logWord(1, 0))
	setChunk(image, g, 2, logWord(0, 0))
	setChunk(image, g, 3, api.Chunk{Kind: api.Huge, Many: 5})
	setChunk(image, g, 4, logWord(1, 1))
	setChunk(image, g, 5, logWord(1, 0))
	own := func(lane int) api.Span { return api.Span{From: 13 + 72*lane, Many: 32} }
	at := func(i int) api.Span { return api.Span{From: chunkAt(g, i), Many: 32} }
	for lane, want := range [][]api.Span{{own(0), at(2)}, {own(1), at(1), at(5), at(4), at(0)}, {own(2)}} {
		if got := mend.Log(image, g, lane); !slices.Equal(got, want) {
			t.Errorf("the log of %d is %v, not %v", lane, got, want)
		}
	}
	for _, lane := range []int{-1, 3, 64, -1 << 62, 1 << 62} {
		if got := mend.Log(image, g, lane); len(got) != 0 {
			t.Errorf("the log of %d is %v", lane, got)
		}
		refused(t, image, g, lane, "no such lane")
	}
	for _, x := range []api.Geometry{{}, {Words: g.Words, Lanes: 2}, {Words: g.Words - 1, Lanes: 3}, {Words: g.Words + 1, Lanes: 3}} {
		if got := mend.Log(image, x, 0); len(got) != 0 {
			t.Errorf("with %v the log is %v", x, got)
		}
		refused(t, image, x, 0, "another geometry")
	}
	for _, x := range [][]uint64{nil, image[:9], image[:len(image)-1], append(slices.Clone(image), 0)} {
		if got := mend.Log(x, g, 0); len(got) != 0 {
			t.Errorf("with %d words the log is %v", len(x), got)
		}
		refused(t, x, g, 0, "another number of words")
		corrupt(t, x, "another number of words")
	}
}

func TestWordsThatAreNone(t *testing.T) {
	for i := range 3 {
		image, g := pool(2, 3)
		image[tableAt(g)+i] = 5
		for lane := range 2 {
			if got := mend.Log(image, g, lane); len(got) != 0 {
				t.Errorf("the log is %v", got)
			}
			refused(t, image, g, lane, "a word that is no chunk's")
		}
		corrupt(t, image, "a word that is no chunk's")
	}
	for i := range 8 {
		image, g := pool(2, 3)
		image[i]++
		if got := mend.Log(image, g, 0); len(got) != 0 {
			t.Errorf("without a head the log is %v", got)
		}
		refused(t, image, g, 0, "no head")
		corrupt(t, image, "no head")
	}
	for lane := range 2 {
		for _, w := range []uint64{3, 4, 3<<16 | 7, 1<<63 | 3} {
			image, g := pool(2, 3)
			image[10+lane] = w
			refused(t, image, g, lane, "no mark")
			corrupt(t, image, "no mark")
			if l, ok := mend.Lane(image, g, 1-lane); !ok || len(l) != 0 {
				t.Errorf("another lane's mark plays a part: %v %v", l, ok)
			}
		}
	}
}

// active is a pool whose lane 1 has these entries, some of which lie in its two logs.
func active(l []api.Entry, gen uint64) ([]uint64, api.Geometry, int) {
	image, g := pool(2, 6)
	setChunk(image, g, 4, logWord(1, 0))
	setChunk(image, g, 2, logWord(1, 1))
	setChunk(image, g, 3, logWord(0, 0))
	w := entries(gen, l)
	lay(image, mend.Log(image, g, 1), w)
	setMark(image, 1, api.Mark{Stage: api.Active, Count: len(w), Gen: gen})
	return image, g, len(w)
}

func old(at, many int) api.Entry {
	x := api.Entry{At: at}
	for i := range many {
		x.Old = append(x.Old, uint64(1000*at+i))
	}
	return x
}

func TestActive(t *testing.T) {
	_, g := pool(2, 6)
	first, last := chunkAt(g, 0), chunkAt(g, 6)-1
	for _, l := range [][]api.Entry{
		nil,
		{old(first, 1)},
		{old(last, 1)},
		{old(first, 64)},
		{old(first+3, 20), old(first+10, 30), old(first, 5), old(first+32, 2)},
		{old(last-40, 41), old(last, 1), old(first, 47)},
	} {
		image, g, n := active(l, 70000)
		got, ok := mend.Lane(image, g, 1)
		if !ok || !slices.Equal(got, back(l)) {
			t.Errorf("for %v is done %v, %v", l, got, ok)
		}
		want := redo.Apply(image, back(l))
		setMark(want, 1, api.Mark{Gen: 70000})
		for _, i := range []int{2, 3, 4} {
			setChunk(want, g, i, api.Chunk{})
		}
		if mended, e := mend.Mend(image); e != api.OK || !slices.Equal(mended, want) {
			t.Errorf("%v: mended to another pool, %v", l, e)
		}
		for _, count := range []int{n - 1, n + 1, 96, 97, 98, mark.MaxCount} {
			if count >= 0 {
				setMark(image, 1, api.Mark{Stage: api.Active, Count: count, Gen: 70000})
				refused(t, image, g, 1, "another count")
				corrupt(t, image, "another count")
			}
		}
		for b := range 16 {
			if n > 0 {
				setMark(image, 1, api.Mark{Stage: api.Active, Count: n, Gen: 70000 ^ 1<<uint(b)})
				refused(t, image, g, 1, "another generation")
			}
		}
		setMark(image, 1, api.Mark{Stage: api.Active, Count: n, Gen: 70000 ^ 1<<16})
		if _, ok := mend.Lane(image, g, 1); !ok {
			t.Error("more than 16 bits of the generation play a part")
		}
	}
}

func TestAllOfALog(t *testing.T) {
	_, g := pool(2, 6)
	l := []api.Entry{old(chunkAt(g, 0), 64), old(chunkAt(g, 0), 28)}
	image, g, n := active(l, 1)
	if got, ok := mend.Lane(image, g, 1); n != 96 || !ok || !slices.Equal(got, back(l)) {
		t.Errorf("a log of %d words: %v", n, ok)
	}
	setChunk(image, g, 2, api.Chunk{})
	refused(t, image, g, 1, "a log that is shorter")
	setChunk(image, g, 2, logWord(1, 1))
	for at := range image {
		if at >= 84 && at < 84+32 || at >= chunkAt(g, 4) && at < chunkAt(g, 5) || at >= chunkAt(g, 2) && at < chunkAt(g, 3) {
			image[at] ^= 1 << 17
			refused(t, image, g, 1, "a word of the log is another one")
			image[at] ^= 1 << 17
		}
	}
}

func TestEntriesOutsideOfChunks(t *testing.T) {
	_, g := pool(2, 6)
	first, behind := chunkAt(g, 0), chunkAt(g, 6)
	in := old(first+1, 2)
	for _, bad := range []api.Entry{old(first-1, 1), old(first-1, 4), old(0, 1), old(8, 1), old(tableAt(g), 6), old(behind, 1), old(behind-1, 2), old(behind-3, 5), old(behind+4, 1), old(65535, 1), old(first-1, 32*6+2)} {
		if len(bad.Old) > 90 {
			continue
		}
		for _, l := range [][]api.Entry{{bad}, {in, bad}, {bad, in}, {in, bad, in}} {
			image, g, _ := active(l, 5)
			refused(t, image, g, 1, "an entry that isn't in chunks")
			corrupt(t, image, "an entry that isn't in chunks")
		}
	}
}

// redoing is a pool whose lane 1 has decided on these.
func redoing(l []api.Op, count int) ([]uint64, api.Geometry) {
	image, g := pool(2, 4)
	w, _ := redo.Encode(l)
	copy(image[12+72+32:], w)
	setMark(image, 1, api.Mark{Stage: api.Redoing, Count: count, Gen: 9})
	return image, g
}

func TestRedoing(t *testing.T) {
	_, g := pool(2, 4)
	tab := tableAt(g)
	run := uint64(1)
	many := make([]api.Op, redo.MaxOps)
	for i := range many {
		many[i] = api.Op{Kind: api.Or, At: tab + i%4, Value: run}
	}
	for _, l := range [][]api.Op{
		nil,
		{{At: 8, Value: 12345}},
		{{At: tab, Value: run}, {Kind: api.Or, At: tab, Value: 1 << 25}, {Kind: api.And, At: tab + 3, Value: 0}},
		{{At: tab, Value: 2 | 4<<11}, {At: tab + 1, Value: 3}, {At: 8, Value: 1}, {At: 8, Value: 2}},
		many,
	} {
		image, g := redoing(l, len(l))
		got, ok := mend.Lane(image, g, 1)
		if !ok || !slices.Equal(got, l) {
			t.Errorf("what is done is %v, %v, not %v", got, ok, l)
		}
		want := redo.Apply(image, l)
		setMark(want, 1, api.Mark{Gen: 9})
		if mended, e := mend.Mend(image); e != api.OK || !slices.Equal(mended, want) {
			t.Errorf("%v: mended to another pool, %v", l, e)
		}
		for _, count := range []int{len(l) - 1, len(l) + 1, 19, 20, mark.MaxCount} {
			if count != len(l) && count >= 0 {
				image, g := redoing(l, count)
				refused(t, image, g, 1, "another count")
				corrupt(t, image, "another count")
			}
		}
		image[12+72+32+2*len(l)] ^= 1
		refused(t, image, g, 1, "another check sum")
	}
	for _, at := range []int{0, 7, 9, 10, 11, 12, tab - 1, tab + 4, chunkAt(g, 0), chunkAt(g, 3), 65535} {
		for _, l := range [][]api.Op{{{At: at}}, {{At: 8}, {At: at}}, {{At: at}, {At: tab}}} {
			image, g := redoing(l, len(l))
			refused(t, image, g, 1, "what it will do is elsewhere")
			corrupt(t, image, "what it will do is elsewhere")
		}
	}
}

func TestAsTheImageItselfTells(t *testing.T) {
	image, g := pool(3, 4)
	tab := tableAt(g)
	// Lane 0 decided to take away lane 1's log, and to lay one of lane 2's; lane 1 will have words back all the same.
	w, _ := redo.Encode([]api.Op{{At: tab + 1, Value: 1}, {At: tab + 2, Value: 4 | 2<<5}, {At: tab + 3, Value: 5}})
	copy(image[13+32:], w)
	setMark(image, 0, api.Mark{Stage: api.Redoing, Count: 3, Gen: 4})
	setChunk(image, g, 1, logWord(1, 0))
	l := []api.Entry{old(chunkAt(g, 0), 31), old(chunkAt(g, 0)+30, 3)}
	lay(image, mend.Log(image, g, 1), entries(3, l))
	setMark(image, 1, api.Mark{Stage: api.Active, Count: 38, Gen: 3})
	got, e := mend.Mend(image)
	want := slices.Clone(image)
	for i := range 32 {
		want[chunkAt(g, 0)+i] = uint64(1000*chunkAt(g, 0) + i)
	}
	want[chunkAt(g, 0)+30] = uint64(1000 * (chunkAt(g, 0) + 30))
	want = redo.Apply(want, back(l))
	setMark(want, 0, api.Mark{Gen: 4})
	setMark(want, 1, api.Mark{Gen: 3})
	want[tab+1], want[tab+2], want[tab+3] = 1, 0, 5
	if e != api.OK || !slices.Equal(got, want) {
		t.Errorf("mended to another pool, %v", e)
	}
}

func TestLanesInOrder(t *testing.T) {
	image, _ := pool(3, 2)
	for lane, v := range []uint64{7, 5, 6} {
		w, _ := redo.Encode([]api.Op{{At: 8, Value: v}})
		copy(image[13+72*lane+32:], w)
		setMark(image, lane, api.Mark{Stage: api.Redoing, Count: 1})
	}
	got, e := mend.Mend(image)
	if e != api.OK || got[8] != 6 {
		t.Errorf("the root is %d, %v", got[8], e)
	}
	image[12] = 3
	corrupt(t, image, "the last lane is wrong")
}

// left is a pool that was left in the middle, as chance has it.
func left(r *rand.Rand) ([]uint64, api.Geometry) {
	lanes, chunks := 1+r.Intn(3), 3+r.Intn(4)
	image, g := pool(lanes, chunks)
	for i := chunkAt(g, 0); i < len(image); i++ {
		image[i] = r.Uint64()
	}
	for i := range chunks {
		setChunk(image, g, i, []api.Chunk{{}, {Kind: api.Run, Class: 1, Bits: 3}, {Kind: api.Huge, Many: 1}, {Kind: api.Tail}, logWord(r.Intn(lanes), r.Intn(3))}[r.Intn(5)])
	}
	for lane := range lanes {
		m := api.Mark{Stage: r.Intn(3), Gen: uint64(r.Intn(1 << 20))}
		switch m.Stage {
		case api.Active:
			w := entries(m.Gen, []api.Entry{old(chunkAt(g, r.Intn(chunks)), 1+r.Intn(20))})
			lay(image, mend.Log(image, g, lane)[:1], w)
			m.Count = len(w)
		case api.Redoing:
			l := []api.Op{{At: 8, Value: r.Uint64()}, {Kind: api.Or, At: tableAt(g) + r.Intn(chunks), Value: 0}}
			w, _ := redo.Encode(l)
			copy(image[geo.Redo(g, lane).From:], w)
			m.Count = 2
		}
		setMark(image, lane, m)
	}
	return image, g
}

func TestMendedAgainIsTheSame(t *testing.T) {
	r := rand.New(rand.NewSource(15))
	for range 300 {
		image, g := left(r)
		mended, e := mend.Mend(image)
		if e != api.OK {
			t.Fatal(e)
		}
		again, e := mend.Mend(mended)
		if e != api.OK || !slices.Equal(again, mended) {
			t.Fatal("mended again it is another pool")
		}
		for lane := range g.Lanes {
			ops, _ := mend.Lane(image, g, lane)
			m, _ := mark.Decode(image[10+lane])
			if m.Stage != api.Active {
				continue
			}
			part := redo.Apply(image, ops[:r.Intn(len(ops)+1)])
			if got, e := mend.Mend(part); e != api.OK || !slices.Equal(got, mended) {
				t.Fatal("taken back in part it is mended to another pool")
			}
		}
	}
}

func TestAnyWords(t *testing.T) {
	r := rand.New(rand.NewSource(16))
	for range 3000 {
		image, g := left(r)
		for range 1 + r.Intn(4) {
			at := r.Intn(len(image))
			if r.Intn(2) == 0 {
				at = r.Intn(tableAt(g) + geo.Chunks(g))
			}
			image[at] ^= 1 << uint(r.Intn(64))
		}
		for lane := -1; lane < 4; lane++ {
			l, ok := mend.Lane(image, g, lane)
			if !ok && len(l) != 0 {
				t.Fatal("something is done for a lane that isn't right")
			}
			mend.Log(image, g, lane)
		}
		out, e := mend.Mend(image)
		if e == api.OK && len(out) != len(image) || e != api.OK && (e != api.ErrCorrupt || len(out) != 0) {
			t.Fatal(e, len(out))
		}
	}
}
