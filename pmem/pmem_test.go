package pmem_test

import (
	"math/rand"
	"slices"
	"testing"

	"lockfast/api"
	"lockfast/pmem"
)

// word is one as the chapter tells it.
type word struct {
	lasting, cached, flushed uint64
	dirty, sent              bool
}

// model is a device as the chapter tells it, word by word.
type model struct {
	words       []word
	dead        bool
	fuse, steps int
}

func (m *model) step() bool {
	if m.dead {
		return false
	}
	if m.fuse > 0 {
		m.fuse--
		if m.fuse == 0 {
			m.dead = true
			return false
		}
	}
	m.steps++
	return true
}

func (m *model) has(at int) bool { return at >= 0 && at < len(m.words) }

func (m *model) store(at int, v uint64) {
	if m.has(at) && m.step() {
		m.words[at].dirty, m.words[at].cached = true, v
	}
}

func (m *model) flush(at, many int) {
	if !m.step() {
		return
	}
	for i := range m.words {
		if i >= at && i < at+many && m.words[i].dirty {
			m.words[i].sent, m.words[i].flushed = true, m.words[i].cached
		}
	}
}

func (m *model) fence() {
	if !m.step() {
		return
	}
	for i := range m.words {
		w := &m.words[i]
		if w.sent {
			w.lasting, w.sent = w.flushed, false
			w.dirty = w.cached != w.flushed
		}
	}
}

func (m *model) evict(at int) {
	if m.has(at) && m.step() && m.words[at].dirty {
		m.words[at] = word{lasting: m.words[at].cached}
	}
}

func (m *model) crash(keep []uint8) {
	n := 0
	for i := range m.words {
		w := &m.words[i]
		if !w.dirty {
			continue
		}
		if n < len(keep) {
			if keep[n]%3 == 1 && w.sent {
				w.lasting = w.flushed
			}
			if keep[n]%3 == 2 {
				w.lasting = w.cached
			}
		}
		n++
		*w = word{lasting: w.lasting}
	}
	m.dead, m.fuse = false, 0
}

func (m *model) load(at int) uint64 {
	if !m.has(at) {
		return 0
	}
	if m.words[at].dirty {
		return m.words[at].cached
	}
	return m.words[at].lasting
}

func (m *model) copied() *model {
	c := *m
	c.words = slices.Clone(m.words)
	return &c
}

func same(t *testing.T, d *pmem.Dev, m *model) {
	t.Helper()
	var image []uint64
	var dirty []int
	for i, w := range m.words {
		image = append(image, w.lasting)
		if w.dirty {
			dirty = append(dirty, i)
		}
	}
	if d.Words() != len(m.words) || d.Dead() != m.dead || d.Steps() != m.steps {
		t.Fatalf("%d words, dead %v, %d steps; not %d, %v, %d", d.Words(), d.Dead(), d.Steps(), len(m.words), m.dead, m.steps)
	}
	if !slices.Equal(d.Image(), image) {
		t.Fatalf("what lasts is %v, not %v", d.Image(), image)
	}
	if !slices.Equal(d.Dirty(), dirty) {
		t.Fatalf("dirty are %v, not %v", d.Dirty(), dirty)
	}
	for _, at := range append(places(len(m.words)), -1<<40, 1<<40) {
		if d.Load(at) != m.load(at) {
			t.Fatalf("word %d is %d, not %d", at, d.Load(at), m.load(at))
		}
	}
}

func places(words int) []int {
	var l []int
	for at := -2; at < words+2; at++ {
		l = append(l, at)
	}
	return l
}

func place(r *rand.Rand, words int) int {
	switch r.Intn(16) {
	case 0:
		return -1 << 40
	case 1:
		return 1 << 40
	}
	return r.Intn(words+4) - 2
}

// act has both do one thing.
func act(r *rand.Rand, d *pmem.Dev, m *model) {
	n := len(m.words)
	switch r.Intn(12) {
	case 0, 1, 2, 3:
		at, v := place(r, n), uint64(r.Intn(4))
		d.Store(at, v)
		m.store(at, v)
	case 4, 5:
		at, many := place(r, n), place(r, n)
		d.Flush(at, many)
		m.flush(at, many)
	case 6, 7:
		d.Fence()
		m.fence()
	case 8:
		at := place(r, n)
		d.Evict(at)
		m.evict(at)
	case 9, 10:
		f := r.Intn(20) - 2
		d.Fuse(f)
		m.fuse = max(f, 0)
	case 11:
		keep := make([]uint8, r.Intn(n+2))
		for i := range keep {
			keep[i] = uint8(r.Intn(256))
		}
		kept := slices.Clone(keep)
		d.Crash(keep)
		m.crash(kept)
	}
}

func TestAsTheChapterTells(t *testing.T) {
	r := rand.New(rand.NewSource(3))
	for range 200 {
		n := 1 + r.Intn(8)
		d, e := pmem.New(n)
		if e != api.OK {
			t.Fatal(e)
		}
		m := &model{words: make([]word, n)}
		same(t, d, m)
		for range 150 {
			act(r, d, m)
			same(t, d, m)
			if r.Intn(20) == 0 {
				copyGoesOn(t, r, d, m)
			}
		}
	}
}

// copyGoesOn tells whether a copy is like the device, and neither one has to do with the other one from then on.
func copyGoesOn(t *testing.T, r *rand.Rand, d *pmem.Dev, m *model) {
	t.Helper()
	c, cm := d.Copy(), m.copied()
	for range 12 {
		same(t, c, cm)
		act(r, c, cm)
	}
	same(t, d, m)
	for range 6 {
		act(r, d, m)
	}
	same(t, c, cm)
}

func TestNewAndOpen(t *testing.T) {
	for _, n := range []int{-1 << 62, -1, 0, api.MaxWords + 1, 1 << 62} {
		if d, e := pmem.New(n); e != api.ErrArg || d != nil {
			t.Errorf("New(%d) tells %v", n, e)
		}
	}
	for _, n := range []int{0, api.MaxWords + 1} {
		if d, e := pmem.Open(make([]uint64, n)); e != api.ErrArg || d != nil {
			t.Errorf("Open of %d words tells %v", n, e)
		}
	}
	for _, n := range []int{1, 2, api.MaxWords} {
		d, e := pmem.New(n)
		if e != api.OK || d.Words() != n || len(d.Image()) != n || len(d.Dirty()) != 0 || d.Dead() || d.Steps() != 0 {
			t.Errorf("New(%d) is wrong", n)
		}
		l := make([]uint64, n)
		l[n-1] = 7
		o, e := pmem.Open(l)
		if e != api.OK || !slices.Equal(o.Image(), l) || o.Load(n-1) != 7 || len(o.Dirty()) != 0 || o.Dead() || o.Steps() != 0 {
			t.Errorf("Open of %d words is wrong", n)
		}
	}
}

func TestMemoryOfItsOwn(t *testing.T) {
	l := []uint64{1, 2}
	d, _ := pmem.Open(l)
	l[0] = 9
	if d.Load(0) != 1 {
		t.Error("the words that were handed in are kept")
	}
	image := d.Image()
	image[0] = 9
	if d.Load(0) != 1 {
		t.Error("the image is the device's own")
	}
	d.Store(0, 5)
	dirty := d.Dirty()
	dirty[0] = 1
	if got := d.Dirty(); got[0] != 0 {
		t.Error("the places are the device's own")
	}
}

// example: Store(1, 7), Flush(1, 1), Store(1, 8), Fence.
func example() *pmem.Dev {
	d, _ := pmem.New(2)
	d.Store(1, 7)
	d.Flush(1, 1)
	d.Store(1, 8)
	return d
}

func TestExample(t *testing.T) {
	d := example()
	d.Fence()
	if d.Image()[1] != 7 || d.Load(1) != 8 || d.Steps() != 4 {
		t.Errorf("%v, %d, %d steps", d.Image(), d.Load(1), d.Steps())
	}
	d.Crash([]uint8{2})
	if d.Image()[1] != 8 || d.Load(1) != 8 || d.Steps() != 4 {
		t.Errorf("%v behind a crash", d.Image())
	}
	for keep, want := range []uint64{0, 7, 8, 0, 7, 8} {
		d := example()
		d.Crash([]uint8{uint8(keep)})
		if d.Image()[1] != want || len(d.Dirty()) != 0 {
			t.Errorf("a crash with %d leaves %d, not %d", keep, d.Image()[1], want)
		}
	}
	d = example()
	d.Crash(nil)
	if d.Image()[1] != 0 {
		t.Errorf("a crash with none leaves %d", d.Image()[1])
	}
}

func TestFuse(t *testing.T) {
	for n := 1; n < 5; n++ {
		d, _ := pmem.New(2)
		d.Fuse(n)
		d.Store(2, 1)
		d.Evict(-1)
		d.Load(5)
		for i := range 6 {
			d.Flush(-5, -5)
			if d.Dead() != (i+1 >= n) || d.Steps() != min(i+1, n-1) {
				t.Fatalf("a fuse of %d, %d steps: dead %v, %d done", n, i+1, d.Dead(), d.Steps())
			}
		}
		d.Store(0, 1)
		d.Fence()
		d.Evict(0)
		if d.Steps() != n-1 || d.Load(0) != 0 || len(d.Dirty()) != 0 {
			t.Fatal("a dead device does steps")
		}
		d.Fuse(3)
		d.Crash(nil)
		if d.Dead() {
			t.Fatal("dead behind a crash")
		}
		for range 9 {
			d.Fence()
		}
		if d.Dead() || d.Steps() != n+8 {
			t.Fatal("a fuse is left behind a crash")
		}
	}
}

func TestWhatWasFencedLasts(t *testing.T) {
	d, _ := pmem.New(4)
	for i := range 4 {
		d.Store(i, uint64(i)+1)
	}
	d.Flush(1, 2)
	d.Fence()
	d.Crash(nil)
	if got := d.Image(); !slices.Equal(got, []uint64{0, 2, 3, 0}) {
		t.Errorf("%v last", got)
	}
}
