package store_test

import (
	"fmt"
	"math"
	"slices"
	"testing"

	"lockfast/api"
	"lockfast/chunk"
	"lockfast/geo"
	"lockfast/journal"
	"lockfast/oid"
	"lockfast/pmem"
	"lockfast/pool"
	"lockfast/sound"
	"lockfast/store"
)

// scene is a store in which something was done: an object of 6 words is the root, one of 40 words is live, too.
type scene struct {
	t         *testing.T
	s         *store.Store
	d         *pmem.Dev
	p         *pool.Pool
	small     api.Oid
	huge      api.Oid
	tab, heap int
}

func (c *scene) ok(e api.Errno) {
	c.t.Helper()
	if e != api.OK {
		c.t.Fatal(e)
	}
}

func (c *scene) begin(lane int) {
	c.t.Helper()
	_, e := c.s.Begin(lane)
	c.ok(e)
}

func (c *scene) alloc(lane, typ, size int) api.Oid {
	c.t.Helper()
	o, e := c.s.Alloc(lane, typ, size)
	c.ok(e)
	return o
}

// steps does those of a commit's from one on up to another one.
func (c *scene) steps(lane, from, to int) {
	c.t.Helper()
	for i := from; i < to; i++ {
		done, e := c.s.Step(lane)
		c.ok(e)
		if done != (i == 4) {
			c.t.Fatalf("the step %d was the fifth: %v", i, done)
		}
	}
}

func (c *scene) commit(lane int) {
	c.t.Helper()
	_, e := c.s.Commit(lane)
	c.ok(e)
	c.steps(lane, 0, 5)
}

func newScene(t *testing.T) *scene {
	t.Helper()
	s, d, p := create(t, 3, 30)
	g := p.Geometry()
	c := &scene{t: t, s: s, d: d, p: p, tab: geo.Table(g).From, heap: geo.Chunk(g, 0).From}
	c.begin(0)
	c.small, c.huge = c.alloc(0, 1, 6), c.alloc(0, 2, 40)
	for i := range 6 {
		c.ok(s.Put(0, c.small, i, uint64(i+1)))
	}
	c.ok(s.SetRoot(0, c.small))
	c.commit(0)
	return c
}

func trace(d *pmem.Dev) string {
	sent := d.Copy()
	sent.Crash(slices.Repeat([]uint8{1}, d.Words()))
	return fmt.Sprint(d.Dead(), d.Image(), journal.View(d), d.Dirty(), sent.Image())
}

// soil has no word of a device last as it is told: which words are flushed is to be seen then.
func soil(c *scene) {
	for at, w := range journal.View(c.d) {
		c.d.Store(at, ^w)
		c.d.Evict(at)
		c.d.Store(at, w)
	}
}

// does tells whether a call does just the steps that are told, whenever the device dies.
func does(t *testing.T, ahead func(*scene), call func(*scene) api.Errno, want func(*scene, *pmem.Dev)) {
	t.Helper()
	for fuse, died := 1, true; died; fuse++ {
		c := newScene(t)
		ahead(c)
		soil(c)
		d, steps := c.d.Copy(), c.d.Steps()
		c.d.Fuse(fuse)
		d.Fuse(fuse)
		e := call(c)
		want(c, d)
		died = d.Dead()
		if trace(c.d) != trace(d) || c.d.Steps() != d.Steps() {
			t.Fatalf("with a fuse of %d it is not what the steps do: %d of them, not %d", fuse, c.d.Steps()-steps, d.Steps()-steps)
		}
		if died != (e == api.ErrDead) || !died && e != api.OK {
			t.Fatalf("with a fuse of %d: %v", fuse, e)
		}
	}
}

func TestStepsOfBeginAddAndPut(t *testing.T) {
	none := func(*scene) {}
	g := api.Geometry{Words: 10 + 73*3 + 33*30, Lanes: 3}
	begin := func(c *scene) api.Errno {
		_, e := c.s.Begin(1)
		return e
	}
	does(t, none, begin, func(_ *scene, d *pmem.Dev) { journal.Begin(d, g, 1) })
	does(t, func(c *scene) { c.begin(1) }, begin, func(_ *scene, d *pmem.Dev) {})
	noted := func(c *scene) {
		c.begin(1)
		c.ok(c.s.Add(1, c.huge, api.Span{From: 5, Many: 3}))
		c.ok(c.s.Add(1, c.huge, api.Span{From: 10, Many: 1}))
	}
	add := func(c *scene) api.Errno { return c.s.Add(1, c.huge, api.Span{Many: 40}) }
	does(t, noted, add, func(c *scene, d *pmem.Dev) {
		at := c.huge.At + 2
		journal.Note(d, g, 1, api.Span{From: at, Many: 5})
		journal.Note(d, g, 1, api.Span{From: at + 8, Many: 2})
		// 18 words are in the log, and 31 more don't go into it.
		if journal.Note(d, g, 1, api.Span{From: at + 11, Many: 29}) == api.ErrLogFull {
			journal.Grow(d, g, 1, 3)
		}
		journal.Note(d, g, 1, api.Span{From: at + 11, Many: 29})
	})
	again := func(c *scene) {
		noted(c)
		c.ok(add(c))
	}
	does(t, again, add, func(_ *scene, d *pmem.Dev) {})
	put := func(c *scene) api.Errno { return c.s.Put(1, c.huge, 10, 77) }
	does(t, noted, put, func(c *scene, d *pmem.Dev) { d.Store(c.huge.At+12, 77) })
	get := func(c *scene) api.Errno {
		_, e := c.s.Get(1, c.huge, 10)
		return e
	}
	does(t, noted, get, func(*scene, *pmem.Dev) {})
}

func TestStepsOfAlloc(t *testing.T) {
	header := func(d *pmem.Dev, at int, h api.Header) {
		words, _ := oid.Encode(h)
		for i, w := range append(words, make([]uint64, h.Size)...) {
			d.Store(at+i, w)
		}
	}
	alloc := func(typ, size int) func(*scene) api.Errno {
		return func(c *scene) api.Errno {
			_, e := c.s.Alloc(1, typ, size)
			return e
		}
	}
	begun := func(c *scene) { c.begin(1) }
	does(t, begun, alloc(9, 5), func(c *scene, d *pmem.Dev) {
		header(d, c.heap+8, api.Header{Type: 9, Size: 5, Serial: 1<<32 + 3})
	})
	does(t, begun, alloc(9, 14), func(c *scene, d *pmem.Dev) {
		journal.Carry(d, []api.Op{{At: c.tab + 3, Value: 1 | 2<<3}})
		header(d, c.heap+96, api.Header{Type: 9, Size: 14, Serial: 1<<32 + 3})
	})
	does(t, begun, alloc(9, 63), func(c *scene, d *pmem.Dev) {
		header(d, c.heap+96, api.Header{Type: 9, Size: 63, Serial: 1<<32 + 3})
	})
}

// busy has lane 1 have done a bit of all.
func busy(c *scene) {
	c.begin(1)
	c.ok(c.s.Add(1, c.small, api.Span{From: 4, Many: 2}))
	c.ok(c.s.Add(1, c.small, api.Span{From: 0, Many: 2}))
	c.ok(c.s.Put(1, c.small, 5, 55))
	c.alloc(1, 4, 2)
	c.alloc(1, 4, 50)
	gone := c.alloc(1, 4, 9)
	c.ok(c.s.Put(1, c.alloc(1, 5, 3), 1, 66))
	c.ok(c.s.Free(1, gone))
	c.ok(c.s.Free(1, c.huge))
	c.ok(c.s.Free(1, c.small))
}

// decision are the operations of busy, in the order in which the chapter tells them: the objects that were made by their places.
func decision(c *scene) []api.Op {
	huge, _ := chunk.Encode(api.Chunk{Kind: api.Huge, Many: 2})
	return []api.Op{
		{Kind: api.Or, At: c.tab, Value: chunk.Bit(1)},
		{Kind: api.Or, At: c.tab + 3, Value: chunk.Bit(0)},
		{At: c.tab + 4, Value: huge}, {At: c.tab + 5, Value: 3},
		{At: c.tab + 1}, {At: c.tab + 2},
		{Kind: api.And, At: c.tab, Value: ^chunk.Bit(0)},
		{At: 8},
	}
}

func TestStepsOfACommit(t *testing.T) {
	g := api.Geometry{Words: 10 + 73*3 + 33*30, Lanes: 3}
	commit := func(c *scene) {
		busy(c)
		before := c.d.Steps()
		done, e := c.s.Commit(1)
		c.ok(e)
		if done || c.d.Steps() != before || c.s.Depth(1) != 1 {
			t.Fatal("a commit does steps")
		}
	}
	step := func(c *scene) api.Errno {
		_, e := c.s.Step(1)
		return e
	}
	for n, want := range []func(*scene, *pmem.Dev){
		func(c *scene, d *pmem.Dev) {
			at := c.small.At
			journal.Save(d, []api.Span{{From: at + 2, Many: 2}, {From: at + 6, Many: 2}, {From: c.heap + 8, Many: 5}, {From: c.heap + 96, Many: 4}, {From: c.heap + 128, Many: 52}})
		},
		func(c *scene, d *pmem.Dev) { journal.Ready(d, g, 1, decision(c)) },
		func(c *scene, d *pmem.Dev) { journal.Decide(d, g, 1, 8) },
		func(c *scene, d *pmem.Dev) { journal.Carry(d, decision(c)) },
		func(c *scene, d *pmem.Dev) { journal.Rest(d, g, 1) },
	} {
		does(t, func(c *scene) { commit(c); c.steps(1, 0, n) }, step, want)
	}
	does(t, func(c *scene) { c.begin(1); c.ok(c.s.SetRoot(1, c.huge)) }, func(c *scene) api.Errno { return c.s.Abort(1) }, func(c *scene, d *pmem.Dev) { journal.Heal(d, g, 1) })
	does(t, func(c *scene) {
		c.begin(1)
		c.ok(c.s.Add(1, c.huge, api.Span{Many: 35}))
		c.ok(c.s.Put(1, c.huge, 30, 1))
	}, func(c *scene) api.Errno { return c.s.Abort(1) }, func(c *scene, d *pmem.Dev) { journal.Heal(d, g, 1) })
}

func TestWhatIsSeenWhen(t *testing.T) {
	c := newScene(t)
	busy(c)
	_, e := c.s.Commit(1)
	c.ok(e)
	before := []api.Oid{c.small, c.huge}
	for n := range 5 {
		if got := c.s.List(0); n < 4 && !slices.Equal(got, before) {
			t.Fatalf("behind %d steps there are %v", n, got)
		}
		if _, e := c.s.Root(0); e != api.ErrConflict {
			t.Fatalf("behind %d steps the root is told: %v", n, e)
		}
		if c.s.Depth(1) != 1 {
			t.Fatal("committing it has no depth")
		}
		c.steps(1, n, n+1)
	}
	l := c.s.List(0)
	if len(l) != 3 || c.s.Depth(1) != 0 || len(c.s.List(5)) != 1 || len(c.s.List(4)) != 2 || len(c.s.List(9)) != 0 || len(c.s.List(-1)) != 0 {
		t.Fatalf("there are %v", l)
	}
	if o, e := c.s.Root(0); e != api.OK || o != (api.Oid{}) {
		t.Fatalf("the root is %v, %v", o, e)
	}
	if v, e := c.s.Get(0, c.s.List(5)[0], 1); e != api.OK || v != 66 {
		t.Fatalf("%d, %v", v, e)
	}
	if _, e := c.s.Get(0, c.small, 1); e != api.ErrBadOid {
		t.Fatalf("what was freed is told: %v", e)
	}
	if _, e := c.s.Step(1); e != api.ErrNoTx {
		t.Fatalf("a sixth step: %v", e)
	}
}

func TestExample(t *testing.T) {
	s, _, _ := create(t, 2, 3)
	if n, e := s.Begin(0); n != 1 || e != api.OK {
		t.Fatal(n, e)
	}
	o, e := s.Alloc(0, 3, 2)
	if e != api.OK || s.Put(0, o, 0, 7) != api.OK {
		t.Fatal(e)
	}
	if v, e := s.Get(1, o, 0); v != 0 || e != api.ErrConflict {
		t.Errorf("%d, %v", v, e)
	}
	if done, e := s.Commit(0); done || e != api.OK {
		t.Error(done, e)
	}
	for i := range 5 {
		if done, e := s.Step(0); done != (i == 4) || e != api.OK {
			t.Error(i, done, e)
		}
	}
	if v, e := s.Get(1, o, 0); v != 7 || e != api.OK {
		t.Errorf("%d, %v", v, e)
	}
}

// call is one of the store's, with arguments that would do for lane 1 of a scene.
type call struct {
	name string
	do   func(c *scene, lane int) (any, api.Errno)
	none any
}

func calls() []call {
	only := func(e api.Errno) (any, api.Errno) { return nil, e }
	return []call{
		{"Begin", func(c *scene, lane int) (any, api.Errno) { return any2(c.s.Begin(lane)) }, 0},
		{"Add", func(c *scene, lane int) (any, api.Errno) { return only(c.s.Add(lane, c.small, api.Span{Many: 1})) }, nil},
		{"Put", func(c *scene, lane int) (any, api.Errno) { return only(c.s.Put(lane, c.small, 0, 1)) }, nil},
		{"Get", func(c *scene, lane int) (any, api.Errno) { return any2(c.s.Get(lane, c.small, 0)) }, uint64(0)},
		{"Alloc", func(c *scene, lane int) (any, api.Errno) { return any2(c.s.Alloc(lane, 1, 1)) }, api.Oid{}},
		{"Free", func(c *scene, lane int) (any, api.Errno) { return only(c.s.Free(lane, c.small)) }, nil},
		{"SetRoot", func(c *scene, lane int) (any, api.Errno) { return only(c.s.SetRoot(lane, c.small)) }, nil},
		{"Root", func(c *scene, lane int) (any, api.Errno) { return any2(c.s.Root(lane)) }, api.Oid{}},
		{"Commit", func(c *scene, lane int) (any, api.Errno) { return any2(c.s.Commit(lane)) }, false},
		{"Abort", func(c *scene, lane int) (any, api.Errno) { return only(c.s.Abort(lane)) }, nil},
		{"Step", func(c *scene, lane int) (any, api.Errno) { return any2(c.s.Step(lane)) }, false},
	}
}

func any2[T any](v T, e api.Errno) (any, api.Errno) { return v, e }

func refused(t *testing.T, c *scene, x call, lane int, want api.Errno, why string) {
	t.Helper()
	before := trace(c.d)
	got, e := x.do(c, lane)
	if e != want || got != x.none || trace(c.d) != before {
		t.Errorf("%s: %s of %d tells %v, %v, not %v", why, x.name, lane, got, e, want)
	}
}

func TestWhyALaneCanNot(t *testing.T) {
	for i, x := range calls() {
		c := newScene(t)
		for _, lane := range []int{-1, 3, 64, math.MinInt, math.MaxInt} {
			refused(t, c, x, lane, api.ErrArg, "no such lane")
			if c.s.Depth(lane) != 0 {
				t.Errorf("the lane %d has a depth", lane)
			}
		}
		if x.name != "Begin" && x.name != "Get" && x.name != "Root" {
			refused(t, c, x, 1, api.ErrNoTx, "no transaction")
		}
		c.begin(1)
		_, e := c.s.Commit(1)
		c.ok(e)
		if x.name != "Step" {
			refused(t, c, x, 1, api.ErrBusy, "a lane that commits")
		}
		c.steps(1, 0, 5)
		// A lane whose transaction is spoilt can begin, commit, and abort alone.
		c.begin(0)
		c.ok(c.s.Free(0, c.huge))
		c.begin(1)
		if e := c.s.Free(1, c.huge); e != api.ErrConflict {
			t.Fatal(e)
		}
		if i >= 1 && i <= 7 {
			refused(t, c, x, 1, api.ErrAborted, "a spoilt lane")
		}
		c.d.Fuse(1)
		c.d.Fence()
		for _, lane := range []int{-1, 0, 1, 2, 3, 64} {
			refused(t, c, x, lane, api.ErrDead, "a dead device")
		}
		if len(c.s.List(0)) != 2 || c.s.Depth(1) != 1 {
			t.Error("what is kept is changed")
		}
	}
}

func TestSpoilt(t *testing.T) {
	c := newScene(t)
	c.begin(0)
	c.ok(c.s.Add(0, c.small, api.Span{Many: 6}))
	// Without a transaction nothing is spoilt.
	if _, e := c.s.Get(1, c.small, 0); e != api.ErrConflict {
		t.Fatal(e)
	}
	if v, e := c.s.Get(1, c.huge, 0); e != api.OK || v != 0 {
		t.Fatal(v, e)
	}
	c.begin(1)
	c.begin(1)
	if e := c.s.Add(1, c.small, api.Span{Many: 1}); e != api.ErrConflict {
		t.Fatal(e)
	}
	if n, e := c.s.Begin(1); n != 3 || e != api.OK {
		t.Fatal(n, e)
	}
	for depth := 2; depth >= 1; depth-- {
		if done, e := c.s.Commit(1); done || e != api.OK || c.s.Depth(1) != depth {
			t.Fatal(done, e)
		}
	}
	if done, e := c.s.Commit(1); done || e != api.ErrAborted || c.s.Depth(1) != 0 {
		t.Fatal(done, e)
	}
	// What was spoilt has ended.
	if _, e := c.s.Get(1, c.huge, 0); e != api.OK {
		t.Fatal(e)
	}
	c.ok(c.s.Abort(0))
	c.begin(1)
	c.ok(c.s.Add(1, c.small, api.Span{Many: 1}))
	// Wrong arguments spoil nothing.
	for _, e := range []api.Errno{c.s.Add(1, c.small, api.Span{}), c.s.Put(1, c.small, 6, 1), c.s.Put(1, c.small, 5, 1), c.s.Free(1, api.Oid{}), c.s.SetRoot(1, api.Oid{At: 1})} {
		if e == api.OK {
			t.Fatal("a wrong argument will do")
		}
	}
	c.ok(c.s.Put(1, c.small, 0, 9))
	c.commit(1)
	if v, _ := c.s.Get(2, c.small, 0); v != 9 {
		t.Fatal(v)
	}
}

func TestRanges(t *testing.T) {
	c := newScene(t)
	c.begin(1)
	for _, s := range []api.Span{{}, {From: 1}, {Many: -1}, {From: -1, Many: 1}, {From: -1, Many: 3}, {From: 6, Many: 1}, {From: 5, Many: 2}, {Many: 7}, {From: math.MaxInt, Many: 1}, {From: 1, Many: math.MaxInt}, {From: math.MaxInt, Many: math.MaxInt}, {From: math.MinInt, Many: math.MinInt}, {From: math.MinInt, Many: math.MaxInt}} {
		if e := c.s.Add(1, c.small, s); e != api.ErrRange {
			t.Errorf("%v: %v", s, e)
		}
	}
	for _, at := range []int{-1, 6, 7, math.MinInt, math.MaxInt, -c.small.At} {
		if e := c.s.Put(1, c.small, at, 1); e != api.ErrRange {
			t.Errorf("Put at %d: %v", at, e)
		}
		for _, lane := range []int{1, 2} {
			if v, e := c.s.Get(lane, c.small, at); e != api.ErrRange || v != 0 {
				t.Errorf("Get at %d: %d, %v", at, v, e)
			}
		}
	}
	// What is out of range is told ahead of a lock that fails, and takes none.
	if _, e := c.s.Get(2, c.small, 0); e != api.OK {
		t.Error(e)
	}
	c.ok(c.s.Add(1, c.small, api.Span{From: 5, Many: 1}))
	c.begin(2)
	if e := c.s.Add(2, c.small, api.Span{From: 6, Many: 1}); e != api.ErrRange {
		t.Error(e)
	}
	if e := c.s.Put(1, c.small, 4, 1); e != api.ErrNotSnapshotted {
		t.Error(e)
	}
	c.ok(c.s.Put(1, c.small, 5, 1))
}

func TestAllocRefused(t *testing.T) {
	c := newScene(t)
	c.begin(1)
	for _, x := range [][2]int{{0, 1}, {-1, 1}, {65536, 1}, {1, -1}, {1, 4097}, {math.MaxInt, 1}, {1, math.MinInt}, {0, 5000}} {
		if o, e := c.s.Alloc(1, x[0], x[1]); e != api.ErrArg || o != (api.Oid{}) {
			t.Errorf("%v: %v, %v", x, o, e)
		}
	}
	c.alloc(1, 65535, 0)
	if o := c.alloc(1, 1, 606-64); o.Serial != 1<<32+4 {
		t.Errorf("what failed took a number: %v", o)
	}
	// Of nineteen operations there are 1, and 17 of a huge one's chunks.
	c.alloc(1, 1, 14)
	if o, e := c.s.Alloc(1, 1, 1); e != api.ErrLogFull || o != (api.Oid{}) {
		t.Errorf("a twentieth operation: %v, %v", o, e)
	}
	if e := c.s.Put(1, c.small, 0, 1); e != api.ErrAborted {
		t.Errorf("it isn't spoilt: %v", e)
	}
	c.ok(c.s.Abort(1))
	c.begin(1)
	if _, e := c.s.Alloc(1, 1, 607); e != api.ErrLogFull {
		t.Errorf("twenty chunks: %v", e)
	}
	c.ok(c.s.Abort(1))
	c.begin(1)
	c.alloc(1, 1, 606)
	if e := c.s.SetRoot(1, c.huge); e != api.ErrLogFull {
		t.Errorf("a twentieth operation: %v", e)
	}
	c.ok(c.s.Abort(1))
	c.begin(1)
	c.alloc(1, 1, 606)
	if e := c.s.Free(1, c.huge); e != api.ErrLogFull {
		t.Errorf("a twentieth operation: %v", e)
	}
	c.ok(c.s.Abort(1))
	c.begin(1)
	c.begin(2)
	c.alloc(1, 1, 500)
	if o, e := c.s.Alloc(2, 1, 500); e != api.ErrNoSpace || o != (api.Oid{}) {
		t.Errorf("%v, %v", o, e)
	}
	if _, e := c.s.Alloc(2, 1, 1); e != api.ErrAborted {
		t.Errorf("it isn't spoilt: %v", e)
	}
}

func TestNames(t *testing.T) {
	c := newScene(t)
	c.begin(1)
	mine := c.alloc(1, 7, 3)
	for _, lane := range []int{1, 2} {
		for _, o := range []api.Oid{{}, {At: c.small.At, Type: 2, Serial: c.small.Serial}, {At: c.small.At, Type: 1, Serial: 9}, {At: c.small.At + 1, Type: 1, Serial: c.small.Serial}, {At: -1}, {At: mine.At, Type: 7, Serial: 1}, {At: mine.At, Type: 8, Serial: mine.Serial}} {
			if _, e := c.s.Get(lane, o, 0); e != api.ErrBadOid {
				t.Errorf("%v, of the lane %d: %v", o, lane, e)
			}
		}
	}
	if _, e := c.s.Get(2, mine, 0); e != api.ErrConflict {
		t.Errorf("another lane's: %v", e)
	}
	c.ok(c.s.Free(1, c.huge))
	if e := c.s.Add(1, c.huge, api.Span{Many: 1}); e != api.ErrBadOid {
		t.Errorf("what was freed: %v", e)
	}
	if e := c.s.Free(1, c.huge); e != api.ErrBadOid {
		t.Errorf("what was freed, freed again: %v", e)
	}
	if _, e := c.s.Get(2, c.huge, 0); e != api.ErrConflict {
		t.Errorf("what another lane freed: %v", e)
	}
	c.ok(c.s.Free(1, mine))
	if _, e := c.s.Get(1, mine, 0); e != api.ErrBadOid {
		t.Errorf("what is made no more: %v", e)
	}
	if _, e := c.s.Get(2, mine, 0); e != api.ErrBadOid {
		t.Errorf("what is made no more, of another lane: %v", e)
	}
	// What was taken stays so till the transaction ends.
	if o := c.alloc(1, 7, 3); o.At == mine.At {
		t.Error("a place is told again")
	}
	c.commit(1)
	c.begin(1)
	stale := c.huge
	if o := c.alloc(1, 2, 40); o.At != stale.At {
		t.Errorf("%v isn't made where %v was", o, stale)
	}
	c.commit(1)
	if _, e := c.s.Get(0, stale, 0); e != api.ErrBadOid {
		t.Errorf("a stale name: %v", e)
	}
}

func TestRoots(t *testing.T) {
	c := newScene(t)
	root := func(lane int, want api.Oid, we api.Errno) {
		t.Helper()
		if o, e := c.s.Root(lane); o != want || e != we {
			t.Errorf("the root of %d is %v, %v, not %v, %v", lane, o, e, want, we)
		}
	}
	root(0, c.small, api.OK)
	c.begin(0)
	root(0, c.small, api.OK)
	root(1, api.Oid{}, api.ErrConflict)
	c.begin(1)
	root(1, api.Oid{}, api.ErrConflict)
	if e := c.s.SetRoot(2, c.huge); e != api.ErrNoTx {
		t.Error(e)
	}
	c.ok(c.s.Abort(1))
	mine := c.alloc(0, 3, 1)
	c.ok(c.s.SetRoot(0, mine))
	root(0, mine, api.OK)
	c.ok(c.s.Free(0, mine))
	root(0, api.Oid{}, api.OK)
	c.ok(c.s.SetRoot(0, c.huge))
	root(0, c.huge, api.OK)
	// The root that was is none any more for this lane: to free it names nothing.
	c.ok(c.s.Free(0, c.small))
	root(0, c.huge, api.OK)
	c.ok(c.s.SetRoot(0, api.Oid{}))
	root(0, api.Oid{}, api.OK)
	c.ok(c.s.SetRoot(0, c.huge))
	c.commit(0)
	root(1, c.huge, api.OK)
	c.begin(1)
	c.begin(2)
	c.ok(c.s.Add(2, c.huge, api.Span{Many: 1}))
	if e := c.s.SetRoot(1, c.huge); e != api.ErrConflict {
		t.Error(e)
	}
	c.ok(c.s.Abort(1))
	c.begin(1)
	c.ok(c.s.SetRoot(1, api.Oid{}))
	// Lane 2 may have it, but not free it: it is the root, and that is named by another lane.
	if e := c.s.Free(2, c.huge); e != api.ErrConflict {
		t.Error(e)
	}
	c.commit(1)
	root(0, api.Oid{}, api.OK)
}

func TestLogsGoOn(t *testing.T) {
	s, d, p := create(t, 1, 24)
	c := &scene{t: t, s: s, d: d, p: p}
	c.begin(0)
	o := c.alloc(0, 1, 300)
	c.commit(0)
	rows := func() int {
		n := 0
		for _, x := range p.Index().Rows() {
			n += x.Many
		}
		return n
	}
	free := rows()
	for _, x := range []struct {
		many, logs int
		e          api.Errno
	}{{30, 0, api.OK}, {31, 1, api.OK}, {62, 1, api.OK}, {63, 2, api.OK}, {286, 8, api.OK}, {287, 8, api.ErrLogFull}} {
		c.begin(0)
		if e := s.Add(0, o, api.Span{Many: x.many}); e != x.e || rows() != free-x.logs {
			t.Errorf("%d words: %v, and %d chunks less", x.many, e, free-rows())
		}
		if x.e == api.OK {
			c.ok(s.Put(0, o, x.many-1, 5))
			c.commit(0)
		} else {
			c.ok(s.Abort(0))
		}
		if rows() != free || sound.Sound(d.Image()) != api.OK {
			t.Errorf("%d words: the logs' chunks aren't free at rest", x.many)
		}
	}
	c.begin(0)
	filler := c.alloc(0, 1, 32*11-2)
	c.alloc(0, 1, 30)
	c.alloc(0, 1, 30)
	if rows() != 1 {
		t.Fatal(rows())
	}
	if e := s.Add(0, o, api.Span{Many: 63}); e != api.ErrLogFull {
		t.Errorf("no chunk for a log: %v", e)
	}
	c.ok(s.Abort(0))
	if _, e := s.Get(0, filler, 0); e != api.ErrBadOid || rows() != free {
		t.Errorf("what was made is there: %v", e)
	}
}

func TestMadeAndFreedIsNothing(t *testing.T) {
	c := newScene(t)
	before, free := c.s.List(0), fmt.Sprint(c.p.Index().Rows())
	c.begin(1)
	o, h := c.alloc(1, 4, 6), c.alloc(1, 4, 100)
	c.ok(c.s.Free(1, h))
	c.ok(c.s.Free(1, o))
	c.commit(1)
	if !slices.Equal(c.s.List(0), before) || fmt.Sprint(c.p.Index().Rows()) != free || len(sound.Objects(c.d.Image())) != 2 {
		t.Error("something is left")
	}
}

func TestAnotherStoreOfThePool(t *testing.T) {
	c := newScene(t)
	s := store.New(c.p)
	if !slices.Equal(s.List(0), c.s.List(0)) {
		t.Errorf("%v", s.List(0))
	}
	if o, e := s.Root(1); e != api.OK || o != c.small {
		t.Errorf("%v, %v", o, e)
	}
	if v, e := s.Get(1, c.small, 3); e != api.OK || v != 4 {
		t.Errorf("%d, %v", v, e)
	}
	l := s.List(0)
	l[0] = api.Oid{}
	if s.List(0)[0] != c.small {
		t.Error("a changed answer changes the next one")
	}
	p, e := pool.Open(c.d)
	c.ok(e)
	if got := store.New(p).List(2); len(got) != 1 || got[0] != c.huge {
		t.Errorf("%v", got)
	}
}
