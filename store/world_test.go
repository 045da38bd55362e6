package store_test

import (
	"math"
	"math/rand"
	"slices"
	"testing"

	"lockfast/api"
	"lockfast/chunk"
	"lockfast/geo"
	"lockfast/journal"
	"lockfast/pmem"
	"lockfast/pool"
	"lockfast/sound"
	"lockfast/store"
)

// did is something that a transaction was told.
type did struct {
	what  int
	o     api.Oid
	at    int
	v     uint64
	words int
}

// world is a store and its model, that are told the same, and what came of whole transactions one behind the other.
type world struct {
	t      *testing.T
	r      *rand.Rand
	s      *store.Store
	d      *pmem.Dev
	p      *pool.Pool
	m      *model
	known  []api.Oid
	done   [][]did
	serial map[api.Oid][]uint64
	root   api.Oid
	// dying is the lane in whose step the device died; -1, if it was in none.
	dying int
}

func newWorld(t *testing.T, r *rand.Rand, lanes, chunks int) *world {
	t.Helper()
	s, d, p := create(t, lanes, chunks)
	return &world{t: t, r: r, s: s, d: d, p: p, m: newModel(lanes), done: make([][]did, lanes), serial: map[api.Oid][]uint64{}, dying: -1}
}

// lane is one of the store's, but for a few that aren't.
func (w *world) lane() int {
	if w.r.Intn(60) == 0 {
		return []int{-1, len(w.m.lanes), math.MinInt, math.MaxInt}[w.r.Intn(4)]
	}
	return w.r.Intn(len(w.m.lanes))
}

// name is one that was told once, or one that never was.
func (w *world) name() api.Oid {
	if len(w.known) == 0 || w.r.Intn(40) == 0 {
		return api.Oid{At: w.r.Intn(400), Type: 1, Serial: 1<<32 + 1}
	}
	n := min(len(w.known), 8)
	o := w.known[len(w.known)-1-w.r.Intn(n)]
	if w.r.Intn(3) == 0 {
		o = w.known[w.r.Intn(len(w.known))]
	}
	switch w.r.Intn(60) {
	case 0:
		o.At++
	case 1:
		o.Type++
	case 2:
		o.Serial++
	case 3:
		o = api.Oid{}
	}
	return o
}

// told tells whether the store told what the model does; nothing but ErrDead, if the device is dead.
func (w *world) told(what string, lane int, got, want any, e, we api.Errno) {
	w.t.Helper()
	if got != want || e != we {
		w.t.Fatalf("%s of %d tells %v, %v, not %v, %v", what, lane, got, e, want, we)
	}
}

// died tells whether the device did; then the error must tell so.
func (w *world) died(lane int, zero bool, e api.Errno) bool {
	w.t.Helper()
	if !w.d.Dead() {
		return false
	}
	if e != api.ErrDead || !zero {
		w.t.Fatalf("a device died, and %d is told %v", lane, e)
	}
	return true
}

func (w *world) record(lane int, e api.Errno, x did) {
	if e != api.OK {
		return
	}
	if w.m.lanes[lane].depth == 0 {
		w.replay([]did{x})
		return
	}
	w.done[lane] = append(w.done[lane], x)
}

// replay does what a transaction did, as if no other one were at work: it must be told the same.
func (w *world) replay(l []did) {
	w.t.Helper()
	for _, x := range l {
		words, ok := w.serial[x.o]
		switch x.what {
		case api.New:
			if ok {
				w.t.Fatalf("%v is told twice", x.o)
			}
			w.serial[x.o] = make([]uint64, x.words)
			continue
		case api.Root:
			if x.o != w.root {
				w.t.Fatalf("the root was told as %v, not %v", x.o, w.root)
			}
			continue
		case api.SetRoot:
			ok = ok || x.o == api.Oid{}
			w.root = x.o
		case api.Put:
			words[x.at] = x.v
		case api.Get:
			if words[x.at] != x.v {
				w.t.Fatalf("the word %d of %v was told as %d, not %d", x.at, x.o, x.v, words[x.at])
			}
		case api.Drop:
			delete(w.serial, x.o)
			if w.root == x.o {
				w.root = api.Oid{}
			}
		}
		if !ok {
			w.t.Fatalf("%v is none", x.o)
		}
	}
}

// act does one thing; false, if the device died.
func (w *world) act() bool {
	w.t.Helper()
	lane, o := w.lane(), w.name()
	at := w.r.Intn(20) - 1
	if x, e := w.m.find(w.r.Intn(len(w.m.lanes)), o); e == api.OK && w.r.Intn(4) > 0 {
		at = w.r.Intn(len(x.data) + 1)
	}
	switch w.r.Intn(24) {
	case 0, 1, 2:
		return w.begin(lane)
	case 3, 4, 5, 6:
		return w.add(lane, o, at)
	case 7, 8, 9, 10:
		return w.put(lane, o, at)
	case 11, 12:
		return w.get(lane, o, at)
	case 13, 14, 15:
		return w.alloc(lane)
	case 16:
		return w.free(lane, o)
	case 17:
		return w.setRoot(lane, o)
	case 18:
		return w.rootName(lane)
	case 19, 20:
		return w.commit(lane)
	case 21:
		if w.r.Intn(4) == 0 {
			return w.abort(lane)
		}
	}
	return w.step(lane)
}

func (w *world) begin(lane int) bool {
	depth, e := w.s.Begin(lane)
	if w.died(lane, depth == 0, e) {
		return false
	}
	want, we := w.m.begin(lane)
	w.told("Begin", lane, depth, want, e, we)
	return true
}

func (w *world) add(lane int, o api.Oid, at int) bool {
	s := api.Span{From: at, Many: w.r.Intn(8)}
	if x := w.m.live[o.At]; w.r.Intn(3) == 0 {
		s = api.Span{Many: len(x.data)}
	}
	if w.r.Intn(20) == 0 {
		s.Many = []int{-1, 60, 300, math.MaxInt, math.MinInt}[w.r.Intn(5)]
	}
	e := w.s.Add(lane, o, s)
	if w.died(lane, true, e) {
		return false
	}
	we := w.m.add(lane, o, s)
	if e == api.ErrLogFull && we == api.OK && len(w.p.Index().Rows()) == 0 {
		we = api.ErrLogFull
	}
	w.told("Add", lane, s, s, e, w.m.spoil(lane, we))
	return true
}

func (w *world) put(lane int, o api.Oid, at int) bool {
	v := w.r.Uint64()
	e := w.s.Put(lane, o, at, v)
	if w.died(lane, true, e) {
		return false
	}
	w.told("Put", lane, o, o, e, w.m.spoil(lane, w.m.put(lane, o, at, v)))
	w.record(lane, e, did{what: api.Put, o: o, at: at, v: v})
	return true
}

func (w *world) get(lane int, o api.Oid, at int) bool {
	v, e := w.s.Get(lane, o, at)
	if w.died(lane, v == 0, e) {
		return false
	}
	want, we := w.m.get(lane, o, at)
	w.told("Get", lane, v, want, e, w.m.spoil(lane, we))
	w.record(lane, e, did{what: api.Get, o: o, at: at, v: v})
	return true
}

func (w *world) alloc(lane int) bool {
	typ, size := 1+w.r.Intn(3), []int{0, 2, 2, 3, 6, 7, 14, 15, 30, 31, 70, 300}[w.r.Intn(12)]
	if w.r.Intn(40) == 0 {
		typ, size = []int{0, -1, 65536, 3}[w.r.Intn(4)], []int{-1, 4097, 4096, 607, 606, math.MaxInt}[w.r.Intn(6)]
	}
	serial := w.lastSerial()
	o, e := w.s.Alloc(lane, typ, size)
	if w.died(lane, o == api.Oid{}, e) {
		return false
	}
	we := w.m.mayAlloc(lane, typ, size)
	if e == api.ErrNoSpace && we == api.OK {
		// Only if no row is long enough; for an object with a class no row may be there at all.
		for _, row := range w.p.Index().Rows() {
			if row.Many >= max(chunksOf(size), 1) {
				w.t.Fatalf("no space for %d words, and there are %v", size, row)
			}
		}
		we = api.ErrNoSpace
	}
	w.told("Alloc", lane, o, o, e, w.m.spoil(lane, we))
	if e != api.OK {
		w.told("Alloc", lane, o, api.Oid{}, e, e)
		return true
	}
	if o.Type != typ || o.Serial != serial+1 {
		w.t.Fatalf("a new name is %v, behind %d", o, serial)
	}
	w.known = append(w.known, o)
	w.m.lanes[lane].made[o.At] = thing{o, make([]uint64, size)}
	w.m.locks[o.At] = lane
	w.record(lane, e, did{what: api.New, o: o, words: size})
	return true
}

// lastSerial is the last number that was told; an Alloc that fails tells none.
func (w *world) lastSerial() uint64 {
	last := w.p.Epoch() << 32
	for _, o := range w.known {
		last = max(last, o.Serial)
	}
	return last
}

func (w *world) free(lane int, o api.Oid) bool {
	e := w.s.Free(lane, o)
	if w.died(lane, true, e) {
		return false
	}
	w.told("Free", lane, o, o, e, w.m.spoil(lane, w.m.free(lane, o)))
	w.record(lane, e, did{what: api.Drop, o: o})
	return true
}

func (w *world) setRoot(lane int, o api.Oid) bool {
	e := w.s.SetRoot(lane, o)
	if w.died(lane, true, e) {
		return false
	}
	w.told("SetRoot", lane, o, o, e, w.m.spoil(lane, w.m.setRoot(lane, o)))
	w.record(lane, e, did{what: api.SetRoot, o: o})
	return true
}

func (w *world) rootName(lane int) bool {
	o, e := w.s.Root(lane)
	if w.died(lane, o == api.Oid{}, e) {
		return false
	}
	want, we := w.m.rootName(lane)
	w.told("Root", lane, o, want, e, w.m.spoil(lane, we))
	w.record(lane, e, did{what: api.Root, o: o})
	return true
}

func (w *world) commit(lane int) bool {
	done, e := w.s.Commit(lane)
	if w.died(lane, !done, e) {
		return false
	}
	we := w.m.commit(lane)
	w.told("Commit", lane, done, false, e, we)
	if e == api.ErrAborted {
		w.done[lane] = nil
	}
	return true
}

func (w *world) step(lane int) bool {
	done, e := w.s.Step(lane)
	if w.died(lane, !done, e) {
		w.dying = lane
		return false
	}
	want, we := w.m.step(lane)
	w.told("Step", lane, done, want, e, we)
	if e == api.OK && w.m.lanes[lane].steps == 4 {
		w.replay(w.done[lane])
		w.done[lane] = nil
	}
	return true
}

func (w *world) abort(lane int) bool {
	e := w.s.Abort(lane)
	if w.died(lane, true, e) {
		return false
	}
	w.told("Abort", lane, 0, 0, e, w.m.abort(lane))
	if e == api.OK {
		w.done[lane] = nil
	}
	return true
}

// same tells whether all that may be seen at any time is as the model has it.
func (w *world) same() {
	w.t.Helper()
	rest := true
	for lane, l := range w.m.lanes {
		if w.s.Depth(lane) != l.depth {
			w.t.Fatalf("the depth of %d is %d, not %d", lane, w.s.Depth(lane), l.depth)
		}
		rest = rest && l.depth == 0
	}
	typ := w.r.Intn(4)
	if got := w.s.List(typ); !slices.Equal(got, w.m.list(typ)) {
		w.t.Fatalf("of the type %d are %v, not %v", typ, got, w.m.list(typ))
	}
	if rest {
		w.atRest()
	}
}

// atRest tells whether a pool, of which no lane is at work, is sound, has just the objects, and leaks nothing.
func (w *world) atRest() {
	w.t.Helper()
	view := journal.View(w.d)
	if sound.Sound(view) != api.OK || sound.Sound(w.d.Image()) != api.OK {
		w.t.Fatal("the pool isn't sound at rest")
	}
	w.has(view, w.m.live, w.m.root)
	w.has(w.d.Image(), w.m.live, w.m.root)
	if len(w.serial) != len(w.m.live) || sound.Root(view) != w.root {
		w.t.Fatal("one behind the other the transactions have other objects, or another root")
	}
	for _, x := range sound.Objects(view) {
		if !slices.Equal(w.serial[x.Oid], x.Data) {
			w.t.Fatalf("%v is %v, not %v", x.Oid, x.Data, w.serial[x.Oid])
		}
	}
	// A run that was new, and is empty, may have been taken for chunks in a row, and dropped: then it is known as free.
	from := geo.Table(w.p.Geometry()).From
	for i, word := range w.p.Index().Table() {
		at := view[from+i]
		if c, _ := chunk.Decode(at); at != word && !(word == 0 && chunk.Empty(c)) {
			w.t.Fatalf("the index knows %x of the chunk %d, not %x", word, i, at)
		}
	}
}

// has fails, if an image hasn't just these objects, and that root.
func (w *world) has(image []uint64, live map[int]thing, root int) {
	w.t.Helper()
	if !has(image, live, root) {
		w.t.Fatalf("the pool has %v, not %v; the root is %v, not %d", sound.Objects(image), live, sound.Root(image), root)
	}
}

func has(image []uint64, live map[int]thing, root int) bool {
	l := sound.Objects(image)
	ok := sound.Sound(image) == api.OK && len(l) == len(live) && sound.Root(image).At == root
	for _, x := range l {
		ok = ok && live[x.Oid.At].name == x.Oid && slices.Equal(live[x.Oid.At].data, x.Data)
	}
	return ok
}
