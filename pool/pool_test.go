package pool_test

import (
	"fmt"
	"math"
	"math/rand"
	"slices"
	"testing"

	"lockfast/api"
	"lockfast/chunk"
	"lockfast/geo"
	"lockfast/journal"
	"lockfast/mark"
	"lockfast/mend"
	"lockfast/oid"
	"lockfast/pmem"
	"lockfast/pool"
	"lockfast/redo"
	"lockfast/sound"
	"lockfast/super"
	"lockfast/undo"
)

func words(lanes, chunks int) int { return 10 + 73*lanes + 33*chunks + 3 }

func tableAt(g api.Geometry) int { return 10 + 73*g.Lanes }

func first(g api.Geometry) int { return tableAt(g) + geo.Chunks(g) }

func markWord(m api.Mark) uint64 {
	w, _ := mark.Encode(m)
	return w
}

func chunkWord(c api.Chunk) uint64 {
	w, _ := chunk.Encode(c)
	return w
}

// step is one of a device's.
type step func(*pmem.Dev)

func store(at int, v uint64) step { return func(d *pmem.Dev) { d.Store(at, v) } }

func flush(at, many int) step { return func(d *pmem.Dev) { d.Flush(at, many) } }

func fence(d *pmem.Dev) { d.Fence() }

func lay(at int, v uint64) []step { return []step{store(at, v), flush(at, 1), fence} }

// trace tells what is to be seen of a device, also of what was flushed.
func trace(d *pmem.Dev) string {
	sent := d.Copy()
	sent.Crash(slices.Repeat([]uint8{1}, d.Words()))
	return fmt.Sprint(d.Steps(), d.Dead(), d.Image(), journal.View(d), d.Dirty(), sent.Image())
}

// soiled is a device that tells the same, of which no word lasts as it is: which words are flushed is to be seen then.
func soiled(d *pmem.Dev) *pmem.Dev {
	s := d.Copy()
	for at, w := range journal.View(d) {
		s.Store(at, ^w)
		s.Evict(at)
		s.Store(at, w)
	}
	return s
}

// does tells whether a call does just these steps, and tells ErrDead if the device dies meanwhile, else OK.
func does(t *testing.T, d *pmem.Dev, call func(*pmem.Dev) api.Errno, steps ...[]step) {
	t.Helper()
	all := slices.Concat(steps...)
	doesAll(t, d, call, all)
	doesAll(t, soiled(d), call, all)
}

func doesAll(t *testing.T, d *pmem.Dev, call func(*pmem.Dev) api.Errno, all []step) {
	t.Helper()
	for fuse := range len(all) + 2 {
		a, b := d.Copy(), d.Copy()
		a.Fuse(fuse)
		b.Fuse(fuse)
		want := api.OK
		if fuse > 0 && fuse <= len(all) {
			want = api.ErrDead
		}
		if e := call(a); e != want {
			t.Fatalf("with a fuse of %d, of %d steps: %v", fuse, len(all), e)
		}
		for _, s := range all {
			s(b)
		}
		if trace(a) != trace(b) {
			t.Fatalf("with a fuse of %d, of %d steps, it is not what the steps do", fuse, len(all))
		}
	}
}

// noisy is a device of words that mean nothing.
func noisy(r *rand.Rand, words int) *pmem.Dev {
	image := make([]uint64, words)
	for i := range image {
		image[i] = r.Uint64()
	}
	d, _ := pmem.Open(image)
	return d
}

func TestCreate(t *testing.T) {
	r := rand.New(rand.NewSource(21))
	for _, x := range [][2]int{{1, 1}, {1, 2}, {3, 2}} {
		lanes := x[0]
		g := api.Geometry{Words: words(lanes, x[1]), Lanes: lanes}
		head, _ := super.Encode(g)
		var l []step
		for i := 1; i < 8; i++ {
			l = append(l, store(i, head[i]))
		}
		for at := 8; at < first(g); at++ {
			l = append(l, store(at, 0))
		}
		create := func(d *pmem.Dev) api.Errno { return pool.Create(d, lanes) }
		d := noisy(r, g.Words)
		d.Store(first(g), 4)
		does(t, d, create, lay(0, 0), l, []step{flush(1, first(g)-1), fence}, lay(0, super.Magic))
		if e := create(d); e != api.OK || sound.Sound(d.Image()) != api.OK || len(sound.Objects(d.Image())) != 0 {
			t.Errorf("what was created isn't an empty pool: %v", e)
		}
		d.Fuse(1)
		d.Fence()
		if e := create(d); e != api.ErrDead {
			t.Errorf("on a dead device: %v", e)
		}
	}
	for words, lanes := range map[int][]int{115: {1}, 116: {2, 0, -1}, 5000: {65, 0, -1, math.MaxInt, math.MinInt}, 4714: {64}, 1: {1}} {
		for _, n := range lanes {
			d := noisy(r, words)
			before := trace(d)
			if e := pool.Create(d, n); e != api.ErrArg || trace(d) != before {
				t.Errorf("%d words, %d lanes: %v", words, n, e)
			}
			d.Fuse(1)
			d.Fence()
			if e := pool.Create(d, n); e != api.ErrArg {
				t.Errorf("%d words, %d lanes, on a dead device: %v", words, n, e)
			}
		}
	}
}

func open(d *pmem.Dev) api.Errno {
	p, e := pool.Open(d)
	if (e == api.OK) != (p != nil) {
		return -1
	}
	return e
}

func TestExample(t *testing.T) {
	d, _ := pmem.New(149)
	if e := open(d); e != api.ErrCorrupt || d.Steps() != 0 {
		t.Errorf("no pool is opened: %v", e)
	}
	if e := pool.Create(d, 1); e != api.OK {
		t.Fatal(e)
	}
	p, e := pool.Open(d)
	if e != api.OK || p.Epoch() != 1 || p.Serial() != 4294967297 || p.Serial() != 4294967298 {
		t.Errorf("%v, epoch %d", e, p.Epoch())
	}
	if p.Dev() != d || p.Geometry() != (api.Geometry{Words: 149, Lanes: 1}) || d.Image()[9] != 1 {
		t.Error("it isn't the device's pool")
	}
	if got := p.Index().Rows(); !slices.Equal(got, []api.Span{{From: 0, Many: 2}}) {
		t.Errorf("rows %v", got)
	}
	p.Index().Take(2)
	if got := p.Index().Table(); p.Index() != p.Index() || !slices.Equal(got, []uint64{1, 0}) {
		t.Errorf("the index isn't one for all calls: %x", got)
	}
	again, e := pool.Open(d)
	if e != api.OK || again.Epoch() != 2 || again.Serial() != 2<<32+1 || p.Serial() != 1<<32+3 || d.Image()[9] != 2 {
		t.Errorf("opened again: %v", e)
	}
	if got := again.Index().Table(); !slices.Equal(got, []uint64{0, 0}) {
		t.Errorf("what was taken is known to another index: %x", got)
	}
}

// left is a pool of three lanes that was left in the middle: lane 0 is active, and has logs; lane 2 has decided.
func left() (*pmem.Dev, api.Geometry) {
	d, _ := pmem.New(words(3, 7))
	g := api.Geometry{Words: d.Words(), Lanes: 3}
	pool.Create(d, 3)
	tab, at := tableAt(g), first(g)
	set := func(at int, v uint64) { d.Store(at, v); d.Evict(at) }
	set(9, 6)
	set(tab, chunkWord(api.Chunk{Kind: api.Run, Class: 2, Bits: 3}))
	for i, serial := range []uint64{6 << 32, 5} {
		w, _ := oid.Encode(api.Header{Type: 4, Size: 9, Serial: serial})
		set(at+16*i, w[0])
		set(at+16*i+1, w[1])
	}
	w, _ := oid.Encode(api.Header{Type: 5, Size: 40, Serial: 7})
	set(at+64, w[0])
	set(at+65, w[1])
	journal.Begin(d, g, 0)
	journal.Note(d, g, 0, api.Span{From: at + 2, Many: 3})
	journal.Grow(d, g, 0, 6)
	journal.Note(d, g, 0, api.Span{From: at + 18, Many: 30})
	journal.Grow(d, g, 0, 5)
	d.Store(at+3, 55)
	d.Store(at+20, 66)
	journal.Begin(d, g, 2)
	journal.Ready(d, g, 2, []api.Op{{At: tab + 2, Value: chunkWord(api.Chunk{Kind: api.Huge, Many: 2})}, {At: tab + 3, Value: 3}, {Kind: api.And, At: tab, Value: ^chunk.Bit(0)}, {At: 8, Value: uint64(at + 64)}})
	journal.Decide(d, g, 2, 4)
	return d, g
}

func TestOpen(t *testing.T) {
	d, g := left()
	tab, at := tableAt(g), first(g)
	run, huge := chunkWord(api.Chunk{Kind: api.Run, Class: 2, Bits: 2}), chunkWord(api.Chunk{Kind: api.Huge, Many: 2})
	var l []step
	for i := range 30 {
		l = append(l, store(at+18+i, 0))
	}
	l = append(l, store(at+2, 0), store(at+3, 0), store(at+4, 0))
	for i := range 30 {
		l = append(l, flush(at+18+i, 1))
	}
	l = append(l, flush(at+2, 1), flush(at+3, 1), flush(at+4, 1), fence)
	l = append(l, store(tab+2, huge), store(tab+3, 3), store(tab, run), store(8, uint64(at+64)), flush(tab+2, 1), flush(tab+3, 1), flush(tab, 1), flush(8, 1), fence)
	logs := []step{store(tab+5, 0), flush(tab+5, 1), store(tab+6, 0), flush(tab+6, 1), fence}
	does(t, d, open, l, lay(10, markWord(api.Mark{Gen: 1})), lay(12, markWord(api.Mark{Gen: 1})), logs, lay(9, 7))
	mended, _ := mend.Mend(journal.View(d))
	mended[9] = 7
	p, e := pool.Open(d)
	if e != api.OK || !slices.Equal(d.Image(), mended) || !slices.Equal(journal.View(d), mended) {
		t.Fatalf("opened it isn't what it is mended to: %v", e)
	}
	if got := p.Index().Table(); !slices.Equal(got, mended[tab:tab+7]) || p.Epoch() != 7 {
		t.Errorf("the index tells %x", got)
	}
	does(t, d, open, lay(9, 8))
}

func TestOpenRefused(t *testing.T) {
	d, g := left()
	refused := func(want api.Errno, why string) {
		t.Helper()
		before := trace(d)
		if e := open(d); e != want || trace(d) != before {
			t.Errorf("%s: %v", why, e)
		}
	}
	kept := d.Copy()
	change := func(at int, v uint64, want api.Errno, why string) {
		t.Helper()
		d = kept.Copy()
		d.Store(at, v)
		refused(want, why)
	}
	tab, at := tableAt(g), first(g)
	change(0, 0, api.ErrCorrupt, "no head")
	change(7, 0, api.ErrCorrupt, "no head")
	change(10, 3, api.ErrCorrupt, "no mark")
	change(12, markWord(api.Mark{Stage: api.Redoing, Count: 3, Gen: 1}), api.ErrCorrupt, "another count")
	change(tab+4, 5, api.ErrCorrupt, "no chunk's word")
	change(tab+4, 3, api.ErrCorrupt, "a tail alone")
	change(at+16, 0, api.ErrCorrupt, "no object")
	change(at+65, 5, api.ErrCorrupt, "one serial twice")
	change(at+65, 7<<32, api.ErrCorrupt, "a serial of an epoch to come")
	change(9, sound.MaxEpoch+1, api.ErrCorrupt, "an epoch that is too great")
	change(9, sound.MaxEpoch, api.ErrRange, "the last epoch")
	d = kept.Copy()
	d.Store(9, sound.MaxEpoch)
	d.Store(0, 0)
	refused(api.ErrCorrupt, "the last epoch, and no head")
	d.Fuse(1)
	d.Fence()
	refused(api.ErrDead, "a dead device")
	d = kept.Copy()
	d.Store(9, sound.MaxEpoch-1)
	p, e := pool.Open(d)
	if e != api.OK || p.Epoch() != sound.MaxEpoch || p.Serial() != sound.MaxEpoch<<32+1 {
		t.Errorf("the last epoch but one: %v", e)
	}
	refused(api.ErrRange, "the last epoch")
}

func TestOpenThatDies(t *testing.T) {
	r := rand.New(rand.NewSource(22))
	for range 600 {
		d, _ := left()
		if r.Intn(2) == 0 {
			d.Crash(nil)
		}
		want, _ := mend.Mend(journal.View(d))
		for range r.Intn(4) {
			d.Fuse(1 + r.Intn(95))
			pool.Open(d)
			keep := make([]uint8, len(d.Dirty()))
			for i := range keep {
				keep[i] = uint8(r.Intn(3))
			}
			d.Crash(keep)
		}
		if e := open(d); e != api.OK {
			t.Fatalf("it can't be opened again: %v", e)
		}
		got := d.Image()
		if got[9] < 7 {
			t.Fatalf("the epoch is %d", got[9])
		}
		want[9], got[9] = 0, 0
		if !slices.Equal(got, want) {
			t.Fatal("opened again it isn't what it is mended to")
		}
	}
}

// wild is a pool of which some words were changed so that its parts may still be right ones.
func wild(r *rand.Rand) *pmem.Dev {
	d, g := left()
	tab, at := tableAt(g), first(g)
	set := func(at int, v uint64) { d.Store(at, v); d.Evict(at) }
	for range 1 + r.Intn(3) {
		switch r.Intn(6) {
		case 0:
			set(r.Intn(d.Words()), r.Uint64())
		case 1:
			set(tab+r.Intn(7), []uint64{0, 1, 1 | 1<<3, 3, 2 | 1<<11, 2 | 2<<11, 4, 4 | 1<<5}[r.Intn(8)])
		case 2:
			set(10+r.Intn(3), markWord(api.Mark{Stage: r.Intn(3), Gen: uint64(r.Intn(3))}))
		case 3:
			var l []api.Op
			for range 1 + r.Intn(3) {
				l = append(l, api.Op{Kind: r.Intn(3), At: tab + r.Intn(7), Value: uint64(r.Intn(8))})
			}
			lane := r.Intn(3)
			w, _ := redo.Encode(l)
			for i, v := range w {
				set(geo.Redo(g, lane).From+i, v)
			}
			set(10+lane, markWord(api.Mark{Stage: api.Redoing, Count: len(l), Gen: 1}))
		case 4:
			w, _ := undo.Encode(1, api.Entry{At: at + r.Intn(200), Old: []uint64{r.Uint64(), 0}})
			lane := r.Intn(3)
			for i, v := range w {
				set(geo.Log(g, lane).From+i, v)
			}
			set(10+lane, markWord(api.Mark{Stage: api.Active, Count: len(w), Gen: 1}))
		case 5:
			set(8+r.Intn(2), uint64(r.Intn(300)))
		}
	}
	return d
}

func TestAnyWords(t *testing.T) {
	r := rand.New(rand.NewSource(23))
	opened := 0
	for range 3000 {
		d := wild(r)
		before, steps := journal.View(d), d.Steps()
		p, e := pool.Open(d)
		switch e {
		case api.ErrCorrupt, api.ErrRange:
			if p != nil || d.Steps() != steps || !slices.Equal(journal.View(d), before) {
				t.Fatal("what can't be opened is touched")
			}
		case api.OK:
			opened++
			want, _ := mend.Mend(before)
			want[9]++
			if sound.Sound(journal.View(d)) != api.OK || !slices.Equal(journal.View(d), want) {
				t.Fatal("what was opened isn't sound, or not what it is mended to")
			}
		default:
			t.Fatal(e)
		}
	}
	if opened < 50 {
		t.Fatalf("%d alone were opened", opened)
	}
}
