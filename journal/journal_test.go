package journal_test

import (
	"fmt"
	"math"
	"math/rand"
	"slices"
	"testing"

	"lockfast/api"
	"lockfast/chunk"
	"lockfast/geo"
	"lockfast/journal"
	"lockfast/mark"
	"lockfast/mend"
	"lockfast/pmem"
	"lockfast/redo"
	"lockfast/super"
	"lockfast/undo"
)

// pool is a device with a pool at rest, whose chunks have words of their own.
func pool(lanes, chunks int) (*pmem.Dev, api.Geometry) {
	g := api.Geometry{Words: 10 + 73*lanes + 33*chunks + 3, Lanes: lanes}
	image := make([]uint64, g.Words)
	head, _ := super.Encode(g)
	copy(image, head)
	for i := geo.Chunk(g, 0).From; i < g.Words; i++ {
		image[i] = uint64(1000 + i)
	}
	d, _ := pmem.Open(image)
	return d, g
}

func first(g api.Geometry) int { return 10 + 73*g.Lanes + geo.Chunks(g) }

func tableAt(g api.Geometry) int { return 10 + 73*g.Lanes }

func markWord(m api.Mark) uint64 {
	w, _ := mark.Encode(m)
	return w
}

func logWord(lane, number int) uint64 {
	w, _ := chunk.Encode(api.Chunk{Kind: api.Log, Lane: lane, Many: number})
	return w
}

// step is one of a device's.
type step func(*pmem.Dev)

func store(at int, v uint64) step { return func(d *pmem.Dev) { d.Store(at, v) } }

func flush(at, many int) step { return func(d *pmem.Dev) { d.Flush(at, many) } }

func fence(d *pmem.Dev) { d.Fence() }

func lay(at int, v uint64) []step { return []step{store(at, v), flush(at, 1), fence} }

// trace tells what is to be seen of a device, also of what was flushed.
func trace(d *pmem.Dev) string {
	sent := d.Copy()
	keep := make([]uint8, d.Words())
	for i := range keep {
		keep[i] = 1
	}
	sent.Crash(keep)
	return fmt.Sprint(d.Steps(), d.Dead(), d.Image(), journal.View(d), d.Dirty(), sent.Image())
}

// soiled is a device that tells the same, of which no word lasts as it is: which words are flushed is to be seen then.
func soiled(d *pmem.Dev) *pmem.Dev {
	s := d.Copy()
	for at, w := range journal.View(d) {
		s.Store(at, ^w)
		s.Evict(at)
		s.Store(at, w)
	}
	return s
}

// does tells whether a call does just these steps: whenever the device dies it is as if they were done one by one.
func does(t *testing.T, d *pmem.Dev, call func(*pmem.Dev), steps ...[]step) {
	t.Helper()
	all := slices.Concat(steps...)
	doesAll(t, d, call, all)
	doesAll(t, soiled(d), call, all)
}

func doesAll(t *testing.T, d *pmem.Dev, call func(*pmem.Dev), all []step) {
	t.Helper()
	for fuse := range len(all) + 2 {
		a, b := d.Copy(), d.Copy()
		a.Fuse(fuse)
		b.Fuse(fuse)
		call(a)
		for _, s := range all {
			s(b)
		}
		if trace(a) != trace(b) {
			t.Fatalf("with a fuse of %d, of %d steps, it is not what the steps do:\n%s\n%s", fuse, len(all), trace(a), trace(b))
		}
	}
}

func TestView(t *testing.T) {
	d, _ := pool(1, 2)
	d.Store(5, 77)
	d.Flush(5, 1)
	d.Store(6, 78)
	got := journal.View(d)
	for at := range d.Words() {
		if got[at] != d.Load(at) {
			t.Errorf("the word %d is %d", at, got[at])
		}
	}
	got[5] = 0
	if len(got) != d.Words() || d.Load(5) != 77 || d.Steps() != 3 {
		t.Error("the device is changed")
	}
}

func TestBeginAndDecide(t *testing.T) {
	for _, m := range []api.Mark{{}, {Gen: 7}, {Gen: mark.MaxGen}, {Stage: api.Active, Count: 5, Gen: 9}, {Stage: api.Redoing, Count: 2, Gen: 9}} {
		d, g := pool(3, 2)
		d.Store(11, markWord(m))
		next := m.Gen + 1
		if m.Gen == mark.MaxGen {
			next = 0
		}
		does(t, d, func(d *pmem.Dev) { journal.Begin(d, g, 1) }, lay(11, markWord(api.Mark{Stage: api.Active, Gen: next})))
		for _, many := range []int{0, 1, 19, mark.MaxCount} {
			does(t, d, func(d *pmem.Dev) { journal.Decide(d, g, 1, many) }, lay(11, markWord(api.Mark{Stage: api.Redoing, Count: many, Gen: m.Gen})))
		}
		for _, many := range []int{-1, mark.MaxCount + 1, math.MinInt, math.MaxInt} {
			does(t, d, func(d *pmem.Dev) { journal.Decide(d, g, 1, many) })
		}
	}
	d, g := pool(1, 2)
	journal.Begin(d, g, 0)
	if d.Steps() != 3 {
		t.Errorf("the chapter's example: %d steps", d.Steps())
	}
}

func TestSave(t *testing.T) {
	d, _ := pool(1, 2)
	for at := 80; at < 100; at++ {
		d.Store(at, 1)
	}
	does(t, d, func(d *pmem.Dev) { journal.Save(d, nil) }, []step{fence})
	does(t, d, func(d *pmem.Dev) { journal.Save(d, []api.Span{{From: 82, Many: 3}}) }, []step{flush(82, 3), fence})
	l := []api.Span{{From: 90, Many: 2}, {From: 82, Many: 3}, {From: 99, Many: 500}, {From: -4, Many: 2}}
	does(t, d, func(d *pmem.Dev) { journal.Save(d, l) }, []step{flush(90, 2), flush(82, 3), flush(99, 500), flush(-4, 2), fence})
}

// entry are an entry's words, of those that stand there.
func entry(d *pmem.Dev, gen uint64, s api.Span) []uint64 {
	x := api.Entry{At: s.From}
	for i := range s.Many {
		x.Old = append(x.Old, d.Load(s.From+i))
	}
	w, _ := undo.Encode(gen, x)
	return w
}

func TestNote(t *testing.T) {
	d, g := pool(2, 6)
	at := first(g)
	journal.Begin(d, g, 1)
	d.Store(at+3, 5)
	log := 12 + 72
	s := api.Span{From: at + 2, Many: 2}
	w := entry(d, 1, s)
	note := func(d *pmem.Dev) {
		if e := journal.Note(d, g, 1, s); e != api.OK {
			t.Errorf("%v", e)
		}
	}
	does(t, d, note, []step{store(log, w[0]), store(log+1, w[1]), store(log+2, w[2]), store(log+3, w[3]), flush(log, 4), fence}, lay(11, markWord(api.Mark{Stage: api.Active, Count: 4, Gen: 1})))
	note(d)
	if got := d.Steps(); got != 3+1+9 {
		t.Errorf("the chapter's example: %d steps", got)
	}
	journal.Grow(d, g, 1, 4)
	journal.Grow(d, g, 1, 2)
	s = api.Span{From: at, Many: 64}
	w = entry(d, 1, s)
	var l []step
	for i, v := range w {
		switch {
		case i < 28:
			l = append(l, store(log+4+i, v))
		case i < 60:
			l = append(l, store(at+4*32+i-28, v))
		default:
			l = append(l, store(at+2*32+i-60, v))
		}
	}
	does(t, d, note, l, []step{flush(log+4, 28), flush(at+128, 32), flush(at+64, 6), fence}, lay(11, markWord(api.Mark{Stage: api.Active, Count: 70, Gen: 1})))
	note(d)
	for many, want := range map[int]api.Errno{24: api.OK, 25: api.ErrLogFull, 90: api.ErrLogFull} {
		c := d.Copy()
		if e := journal.Note(c, g, 1, api.Span{From: at, Many: many}); e != want {
			t.Errorf("%d words noted: %v", many, e)
		}
		if want != api.OK && c.Steps() != d.Steps() {
			t.Error("a note that fails does steps")
		}
	}
}

func TestNoteRefused(t *testing.T) {
	d, g := pool(2, 6)
	at := first(g)
	good := api.Span{From: at, Many: 1}
	for _, m := range []api.Mark{{}, {Gen: 4}, {Stage: api.Redoing}, {Stage: api.Redoing, Count: 3, Gen: 1}} {
		d.Store(11, markWord(m))
		for _, s := range []api.Span{good, {}, {From: at, Many: 5000}} {
			does(t, d, func(d *pmem.Dev) {
				if e := journal.Note(d, g, 1, s); e != api.ErrNoTx {
					t.Errorf("%v, of %v: %v", m, s, e)
				}
			})
		}
	}
	d.Store(11, markWord(api.Mark{Stage: api.Active, Gen: 1}))
	for _, s := range []api.Span{{}, {From: at}, {From: at, Many: -1}, {From: at - 1, Many: 1}, {From: at - 1, Many: 5}, {From: at + 192, Many: 1}, {From: at + 191, Many: 2}, {From: at, Many: 193}, {From: 8, Many: 1}, {From: -1, Many: 1}, {From: at, Many: math.MaxInt}, {From: math.MaxInt, Many: 1}, {From: math.MaxInt, Many: math.MaxInt}, {From: math.MinInt, Many: math.MinInt}, {From: at, Many: math.MinInt}, {From: math.MinInt, Many: 5}} {
		does(t, d, func(d *pmem.Dev) {
			if e := journal.Note(d, g, 1, s); e != api.ErrRange {
				t.Errorf("%v: %v", s, e)
			}
		})
	}
	for _, s := range []api.Span{good, {From: at + 191, Many: 1}, {From: at + 162, Many: 30}} {
		if e := journal.Note(d.Copy(), g, 1, s); e != api.OK {
			t.Errorf("%v: %v", s, e)
		}
	}
	if e := journal.Note(d, g, 1, api.Span{From: at, Many: 31}); e != api.ErrLogFull {
		t.Errorf("33 words in a log of 32: %v", e)
	}
}

func TestNoteOfTooMany(t *testing.T) {
	d, g := pool(1, 140)
	journal.Begin(d, g, 0)
	at := first(g)
	for many, want := range map[int]api.Errno{4096: api.ErrLogFull, 4097: api.ErrRange} {
		if e := journal.Note(d, g, 0, api.Span{From: at, Many: many}); e != want {
			t.Errorf("%d words: %v", many, e)
		}
	}
}

func TestGrow(t *testing.T) {
	d, g := pool(2, 12)
	tab := tableAt(g)
	for _, i := range []int{-1, 12, math.MinInt, math.MaxInt} {
		does(t, d, func(d *pmem.Dev) {
			if e := journal.Grow(d, g, 1, i); e != api.ErrRange {
				t.Errorf("in %d: %v", i, e)
			}
		})
	}
	journal.Grow(d, g, 0, 1)
	for n, i := range []int{11, 0, 5, 4, 6, 7, 8, 9} {
		grow := func(d *pmem.Dev) {
			if e := journal.Grow(d, g, 1, i); e != api.OK {
				t.Errorf("%v", e)
			}
		}
		does(t, d, grow, lay(tab+i, logWord(1, n)))
		grow(d)
	}
	does(t, d, func(d *pmem.Dev) {
		if e := journal.Grow(d, g, 1, 2); e != api.ErrLogFull {
			t.Errorf("a ninth log: %v", e)
		}
	})
	if e := journal.Grow(d, g, 1, 12); e != api.ErrRange {
		t.Errorf("a ninth log in no chunk: %v", e)
	}
	if e := journal.Grow(d, g, 0, 3); e != api.OK {
		t.Errorf("another lane: %v", e)
	}
}

func TestReady(t *testing.T) {
	d, g := pool(2, 4)
	at := 12 + 72 + 32
	for _, n := range []int{0, 1, 3, 19} {
		var l []api.Op
		for i := range n {
			l = append(l, api.Op{Kind: i % 3, At: 8 + i, Value: uint64(i)})
		}
		w, _ := redo.Encode(l)
		var steps []step
		for i, v := range w {
			steps = append(steps, store(at+i, v))
		}
		does(t, d, func(d *pmem.Dev) {
			if e := journal.Ready(d, g, 1, l); e != api.OK {
				t.Errorf("%v", e)
			}
		}, steps, []step{flush(at, 2*n+1), fence})
	}
	for _, x := range []struct {
		l []api.Op
		e api.Errno
	}{{make([]api.Op, 20), api.ErrLogFull}, {[]api.Op{{Kind: 3}}, api.ErrArg}, {[]api.Op{{}, {At: -1}}, api.ErrArg}} {
		does(t, d, func(d *pmem.Dev) {
			if e := journal.Ready(d, g, 1, x.l); e != x.e {
				t.Errorf("%v", e)
			}
		})
	}
}

func TestCarry(t *testing.T) {
	d, g := pool(1, 4)
	d.Store(8, 12)
	does(t, d, func(d *pmem.Dev) { journal.Carry(d, nil) }, []step{fence})
	tab := tableAt(g)
	l := []api.Op{{At: tab, Value: 6}, {Kind: api.Or, At: 8, Value: 3}, {Kind: api.And, At: tab, Value: 5}, {At: -1, Value: 1}, {Kind: api.Or, At: tab, Value: 1}, {At: g.Words, Value: 2}, {Kind: 7, At: tab + 1, Value: 9}}
	does(t, d, func(d *pmem.Dev) { journal.Carry(d, l) },
		[]step{store(tab, 6), store(8, 15), store(tab, 4), store(-1, 1), store(tab, 5), store(g.Words, 2), store(tab+1, 0)},
		[]step{flush(tab, 1), flush(8, 1), flush(tab, 1), flush(-1, 1), flush(tab, 1), flush(g.Words, 1), flush(tab+1, 1), fence})
}

func TestRest(t *testing.T) {
	d, g := pool(2, 6)
	tab := tableAt(g)
	d.Store(11, markWord(api.Mark{Stage: api.Redoing, Count: 2, Gen: 8}))
	rest := func(d *pmem.Dev) { journal.Rest(d, g, 1) }
	end := lay(11, markWord(api.Mark{Gen: 8}))
	does(t, d, rest, end)
	journal.Grow(d, g, 1, 4)
	journal.Grow(d, g, 0, 3)
	journal.Grow(d, g, 1, 0)
	journal.Grow(d, g, 1, 2)
	does(t, d, rest, end, []step{store(tab+4, 0), flush(tab+4, 1), store(tab, 0), flush(tab, 1), store(tab+2, 0), flush(tab+2, 1), fence})
	rest(d)
	if d.Load(tab+3) != logWord(0, 0) {
		t.Error("another lane's log is gone")
	}
}

func TestHeal(t *testing.T) {
	d, g := pool(2, 6)
	tab, at := tableAt(g), first(g)
	heal := func(want api.Errno) func(*pmem.Dev) {
		return func(d *pmem.Dev) {
			if e := journal.Heal(d, g, 1); e != want {
				t.Errorf("%v, not %v", e, want)
			}
		}
	}
	does(t, d, heal(api.OK))
	d.Store(11, markWord(api.Mark{Gen: 3}))
	does(t, d, heal(api.OK))
	journal.Grow(d, g, 1, 4)
	does(t, d, heal(api.OK), lay(11, markWord(api.Mark{Gen: 3})), []step{store(tab+4, 0), flush(tab+4, 1), fence})
	journal.Begin(d, g, 1)
	does(t, d, heal(api.OK), lay(11, markWord(api.Mark{Gen: 4})), []step{store(tab+4, 0), flush(tab+4, 1), fence})
	journal.Rest(d, g, 1)
	journal.Begin(d, g, 1)
	does(t, d, heal(api.OK), lay(11, markWord(api.Mark{Gen: 5})))
	old := uint64(1000 + at)
	one := d.Copy()
	journal.Note(one, g, 1, api.Span{From: at, Many: 1})
	one.Store(at, 1)
	does(t, one, heal(api.OK), []step{store(at, old), flush(at, 1), fence}, lay(11, markWord(api.Mark{Gen: 5})))
	journal.Note(d, g, 1, api.Span{From: at, Many: 2})
	d.Store(at, 1)
	journal.Note(d, g, 1, api.Span{From: at, Many: 1})
	does(t, d, heal(api.OK), []step{store(at, 1), store(at, old), store(at+1, old+1), flush(at, 1), flush(at, 1), flush(at+1, 1), fence}, lay(11, markWord(api.Mark{Gen: 5})))
	journal.Ready(d, g, 1, []api.Op{{At: 8, Value: 7}, {Kind: api.Or, At: tab, Value: 1}})
	journal.Decide(d, g, 1, 2)
	does(t, d, heal(api.OK), []step{store(8, 7), store(tab, 1), flush(8, 1), flush(tab, 1), fence}, lay(11, markWord(api.Mark{Gen: 5})))
	journal.Ready(d, g, 1, nil)
	journal.Decide(d, g, 1, 0)
	does(t, d, heal(api.OK), lay(11, markWord(api.Mark{Gen: 5})))
	journal.Decide(d, g, 1, 1)
	does(t, d, heal(api.ErrCorrupt))
	d.Store(11, 3)
	does(t, d, heal(api.ErrCorrupt))
	d.Store(11, 0)
	d.Store(tab+1, 5)
	does(t, d, heal(api.ErrCorrupt))
}

// work is a lane's, from its begin to its rest: words are noted and stored to, its log grows, and two operations are done.
func work(d *pmem.Dev, g api.Geometry, lane int) []func() {
	at, tab := first(g)+64*lane, tableAt(g)
	return []func(){
		func() { journal.Begin(d, g, lane) },
		func() { journal.Note(d, g, lane, api.Span{From: at, Many: 3}) },
		func() { d.Store(at, 1); d.Store(at+2, 2) },
		func() { journal.Grow(d, g, lane, 4+lane) },
		func() { journal.Note(d, g, lane, api.Span{From: at + 10, Many: 30}) },
		func() { d.Store(at+11, 3); d.Store(at+39, 4) },
		func() { journal.Save(d, []api.Span{{From: at, Many: 40}}) },
		func() { journal.Ready(d, g, lane, ops(tab, lane)) },
		func() { journal.Decide(d, g, lane, 2) },
		func() { journal.Carry(d, ops(tab, lane)) },
		func() { journal.Rest(d, g, lane) },
	}
}

func ops(tab, lane int) []api.Op {
	return []api.Op{{Kind: api.Or, At: tab, Value: 1 | 1<<uint(24+lane)}, {Kind: api.Set, At: tab + 2 + lane, Value: 1 | 2<<3}}
}

// decided is from which one of a work's parts on it is decided, if that has ended.
const decided = 8

// after is what a pool is, of whose lanes those that are told have done all.
func after(image []uint64, g api.Geometry, done [2]bool, begun [2]bool) []uint64 {
	out := slices.Clone(image)
	for lane := range 2 {
		gen := uint64(0)
		if begun[lane] {
			gen = 1
		}
		out[10+lane] = markWord(api.Mark{Gen: gen})
		if done[lane] {
			at := first(g) + 64*lane
			out[at], out[at+2], out[at+11], out[at+39] = 1, 2, 3, 4
			out = redo.Apply(out, ops(tableAt(g), lane))
		}
	}
	return out
}

// clean is an image without what its logs and redos, and chunks that were logs, say.
func clean(image []uint64, g api.Geometry) []uint64 {
	out := slices.Clone(image)
	clear(out[10+g.Lanes : tableAt(g)])
	clear(out[first(g)+4*32 : first(g)+6*32])
	return out
}

func TestCrashesAnywhere(t *testing.T) {
	r := rand.New(rand.NewSource(19))
	for try := range 400 {
		d, g := pool(2, 6)
		image := d.Image()
		parts := [2][]func(){work(d, g, 0), work(d, g, 1)}
		at := [2]int{}
		d.Fuse(1 + try%170)
		// A lane has decided, if its mark was laid; the device may have died in just that step.
		var begun, done, maybe, maybeBegun [2]bool
		for (at[0] < len(parts[0]) || at[1] < len(parts[1])) && !d.Dead() {
			lane := r.Intn(2)
			if at[lane] == len(parts[lane]) {
				continue
			}
			parts[lane][at[lane]]()
			maybeBegun[lane] = maybeBegun[lane] || at[lane] == 0 && d.Dead()
			maybe[lane] = maybe[lane] || at[lane] == decided && d.Dead()
			begun[lane] = begun[lane] || at[lane] == 0 && !d.Dead()
			done[lane] = done[lane] || at[lane] == decided && !d.Dead()
			at[lane]++
		}
		keep := make([]uint8, len(d.Dirty()))
		for i := range keep {
			keep[i] = uint8(r.Intn(3))
		}
		d.Crash(keep)
		mended, e := mend.Mend(d.Image())
		if e != api.OK {
			t.Fatalf("it can't be mended: %v", e)
		}
		found := false
		for pick := range 16 {
			wasDone, wasBegun := done, begun
			for lane := range 2 {
				wasDone[lane] = wasDone[lane] || maybe[lane] && pick>>lane&1 == 1
				wasBegun[lane] = wasBegun[lane] || maybeBegun[lane] && pick>>(2+lane)&1 == 1
			}
			found = found || slices.Equal(clean(mended, g), clean(after(image, g, wasDone, wasBegun), g))
		}
		if !found {
			t.Fatalf("try %d: mended it is neither what it was nor what it must be: %v", try, done)
		}
		healed(t, r, d, g, mended)
	}
}

// healed tells whether a pool, healed lane by lane, also if it dies in between, is what it is mended to.
func healed(t *testing.T, r *rand.Rand, d *pmem.Dev, g api.Geometry, mended []uint64) {
	t.Helper()
	for range 3 {
		d.Fuse(1 + r.Intn(60))
		for lane := range g.Lanes {
			if e := journal.Heal(d, g, lane); e != api.OK {
				t.Fatalf("it can't be healed: %v", e)
			}
		}
		keep := make([]uint8, len(d.Dirty()))
		for i := range keep {
			keep[i] = uint8(r.Intn(3))
		}
		d.Crash(keep)
	}
	for lane := range g.Lanes {
		journal.Heal(d, g, lane)
	}
	if !slices.Equal(journal.View(d), mended) || !slices.Equal(d.Image(), mended) {
		t.Fatal("healed it isn't what it is mended to")
	}
}

func TestWrongLanesEnd(t *testing.T) {
	for _, lane := range []int{-1, 2, math.MinInt, math.MaxInt} {
		d, g := pool(2, 3)
		journal.Begin(d, g, lane)
		journal.Note(d, g, lane, api.Span{From: first(g), Many: 1})
		journal.Grow(d, g, lane, 0)
		journal.Ready(d, g, lane, nil)
		journal.Decide(d, g, lane, 0)
		journal.Rest(d, g, lane)
		journal.Heal(d, g, lane)
		d, _ = pmem.New(5)
		journal.Begin(d, g, 0)
		journal.Note(d, g, 0, api.Span{From: first(g), Many: 1})
		journal.Grow(d, g, 0, 0)
		journal.Ready(d, g, 0, nil)
		journal.Decide(d, g, 0, 0)
		journal.Rest(d, g, 0)
		journal.Heal(d, g, 0)
	}
}
