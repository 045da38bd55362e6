package store_test

import (
	"math/rand"
	"testing"

	"lockfast/api"
	"lockfast/journal"
	"lockfast/pool"
	"lockfast/sound"
	"lockfast/store"
)

func TestAsTheChapterTells(t *testing.T) {
	r := rand.New(rand.NewSource(22))
	for try := range 120 {
		w := newWorld(t, r, 1+try%4, []int{3, 12, 60}[try%3])
		for range 600 {
			if !w.act() {
				t.Fatal("the device died")
			}
			w.same()
		}
		w.finish()
	}
}

// finish has all lanes come to an end.
func (w *world) finish() {
	w.t.Helper()
	for lane, l := range w.m.lanes {
		for l.committing && w.m.lanes[lane] == l {
			w.step(lane)
		}
		if w.m.lanes[lane].depth > 0 {
			w.abort(lane)
		}
	}
	w.same()
}

func TestCrashes(t *testing.T) {
	r := rand.New(rand.NewSource(23))
	for try := range 150 {
		w := newWorld(t, r, 1+try%3, 20)
		for range 8 {
			w.crash(20 + r.Intn(600))
		}
	}
}

// crash goes on till the device dies, or so much was done; then power fails, and the pool is opened again.
func (w *world) crash(fuse int) {
	w.t.Helper()
	w.d.Fuse(fuse)
	for range 300 {
		if w.r.Intn(10) == 0 {
			w.d.Evict(w.r.Intn(w.d.Words()))
		}
		if w.d.Dead() || !w.act() {
			break
		}
	}
	w.lose()
	for range w.r.Intn(3) {
		w.d.Fuse(1 + w.r.Intn(120))
		if _, e := pool.Open(w.d); e != api.OK && e != api.ErrDead {
			w.t.Fatalf("it can't be opened: %v", e)
		}
		w.lose()
	}
	p, e := pool.Open(w.d)
	if e != api.OK {
		w.t.Fatalf("it can't be opened again: %v", e)
	}
	w.p, w.s = p, store.New(p)
	w.reopened()
}

// lose has power fail: of words that don't last yet chance picks what is left.
func (w *world) lose() {
	keep := make([]uint8, len(w.d.Dirty()))
	for i := range keep {
		keep[i] = uint8(w.r.Intn(3))
	}
	w.d.Crash(keep)
}

// reopened holds what is there against what was decided, and goes on with that.
func (w *world) reopened() {
	w.t.Helper()
	view := journal.View(w.d)
	for _, maybe := range []bool{false, true} {
		live, root := w.m.opened(func(lane int) bool {
			return w.m.lanes[lane].steps >= 3 || maybe && lane == w.dying && w.m.lanes[lane].steps == 2
		})
		if !has(view, live, root) {
			continue
		}
		m := newModel(len(w.m.lanes))
		m.live, m.root = live, root
		w.m, w.dying = m, -1
		w.done = make([][]did, len(m.lanes))
		w.serial, w.root = map[api.Oid][]uint64{}, live[root].name
		for _, x := range sound.Objects(view) {
			w.serial[x.Oid] = x.Data
		}
		w.same()
		return
	}
	w.t.Fatalf("opened again the pool has %v, root %v", sound.Objects(view), sound.Root(view))
}
