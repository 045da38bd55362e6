package index_test

import (
	"math"
	"math/rand"
	"slices"
	"testing"

	"lockfast/api"
	"lockfast/index"
)

var (
	many = [3]int{8, 4, 2}
	most = [3]int{2, 6, 14}
)

// What a block is, or a huge one.
const (
	free = iota
	live
	taken
)

// cell is a chunk as the chapter tells it: what it is, and what each of its blocks is.
type cell struct {
	kind, class, lane, many int
	blocks                  []int
}

type model []cell

func (c cell) has(what int) bool { return slices.Contains(c.blocks, what) }

func (c cell) canBeHad() bool {
	return c.kind == api.Free || c.kind == api.Run && !c.has(live) && !c.has(taken)
}

func (m model) take(size int) (api.Place, api.Errno) {
	if size < 0 || size > 4096 {
		return api.Place{}, api.ErrArg
	}
	for class := range 3 {
		if size > most[class] {
			continue
		}
		for i, c := range m {
			if b := slices.Index(c.blocks, free); c.kind == api.Run && c.class == class && b >= 0 {
				m[i].blocks[b] = taken
				return api.Place{Chunk: i, Index: b, Class: class}, api.OK
			}
		}
		for i, c := range m {
			if c.canBeHad() {
				m[i] = cell{kind: api.Run, class: class, blocks: make([]int, many[class])}
				m[i].blocks[0] = taken
				return api.Place{Chunk: i, Class: class, Fresh: true}, api.OK
			}
		}
		return api.Place{}, api.ErrNoSpace
	}
	n := (size + 2 + 31) / 32
	for i := 0; i+n <= len(m); i++ {
		ok := true
		for k := range n {
			ok = ok && m[i+k].canBeHad()
		}
		if ok {
			for k := range n {
				m[i+k] = cell{kind: api.Tail}
			}
			m[i] = cell{kind: api.Huge, many: n, blocks: []int{taken}}
			return api.Place{Chunk: i, Class: -1, Many: n}, api.OK
		}
	}
	return api.Place{}, api.ErrNoSpace
}

// turn has the block of a place, if that is what it must be, be another one; a huge one that is free is none.
func (m model) turn(p api.Place, from, to int) bool {
	if p.Chunk < 0 || p.Chunk >= len(m) {
		return false
	}
	c := m[p.Chunk]
	run := c.kind == api.Run && p.Class == c.class && p.Index >= 0 && p.Index < many[c.class]
	huge := c.kind == api.Huge && p.Class == -1 && p.Index == 0 && p.Many == c.many
	if !run && !huge || c.blocks[p.Index] != from {
		return false
	}
	c.blocks[p.Index] = to
	if huge && to == free {
		for k := range c.many {
			m[p.Chunk+k] = cell{}
		}
	}
	return true
}

func (m model) takeLog(lane, number int) (int, api.Errno) {
	if lane < 0 || lane > 63 || number < 0 || number > 7 {
		return 0, api.ErrArg
	}
	for i, c := range m {
		if c.canBeHad() {
			m[i] = cell{kind: api.Log, lane: lane, many: number}
			return i, api.OK
		}
	}
	return 0, api.ErrNoSpace
}

func (m model) dropLog(i int) bool {
	if i < 0 || i >= len(m) || m[i].kind != api.Log {
		return false
	}
	m[i] = cell{}
	return true
}

func (m model) table() []uint64 {
	var out []uint64
	hidden := 0
	for _, c := range m {
		if c.kind == api.Huge && c.has(taken) {
			hidden = c.many
		}
		w := uint64(c.kind) + uint64(c.class)*8 + uint64(c.lane)*32 + uint64(c.many)*2048
		for b, what := range c.blocks {
			if c.kind == api.Run && what == live {
				w += 1 << uint(24+b)
			}
		}
		if hidden > 0 {
			w, hidden = 0, hidden-1
		}
		out = append(out, w)
	}
	return out
}

func (m model) rows() []api.Span {
	var out []api.Span
	for i, c := range m {
		if c.canBeHad() {
			if i == 0 || !m[i-1].canBeHad() {
				out = append(out, api.Span{From: i})
			}
			out[len(out)-1].Many++
		}
	}
	return out
}

func same(t *testing.T, x *index.Index, m model) {
	t.Helper()
	if got := x.Table(); !slices.Equal(got, m.table()) {
		t.Fatalf("the table is %x, not %x", got, m.table())
	}
	if got := x.Rows(); !slices.Equal(got, m.rows()) {
		t.Fatalf("the rows are %v, not %v", got, m.rows())
	}
}

// start is a model, as chance has it, without what is taken.
func start(r *rand.Rand) model {
	var m model
	for range r.Intn(10) {
		switch r.Intn(7) {
		case 0, 1, 2:
			m = append(m, cell{})
		case 3, 4:
			c := cell{kind: api.Run, class: r.Intn(3)}
			for range many[c.class] {
				c.blocks = append(c.blocks, r.Intn(2))
			}
			m = append(m, c)
		case 5:
			n := 1 + r.Intn(3)
			m = append(m, cell{kind: api.Huge, many: n, blocks: []int{live}})
			for range n - 1 {
				m = append(m, cell{kind: api.Tail})
			}
		case 6:
			m = append(m, cell{kind: api.Log, lane: r.Intn(64), many: r.Intn(8)})
		}
	}
	return m
}

func size(r *rand.Rand) int {
	return []int{-1, 0, 2, 3, 6, 7, 14, 15, 30, 31, 62, 63, 94, 4096, 4097, math.MinInt, math.MaxInt}[r.Intn(17)]
}

func place(r *rand.Rand, m model, known []api.Place) api.Place {
	if len(known) > 0 && r.Intn(3) > 0 {
		p := known[r.Intn(len(known))]
		switch r.Intn(8) {
		case 0:
			p.Index++
		case 1:
			p.Class++
		case 2:
			if p.Class == -1 {
				p.Many++
			}
		case 3:
			p.Fresh = !p.Fresh
		case 4:
			if p.Class >= 0 {
				p.Many = 5
			}
		}
		return p
	}
	p := api.Place{Chunk: r.Intn(len(m)+2) - 1, Index: r.Intn(10) - 1, Class: r.Intn(5) - 1, Many: r.Intn(4)}
	if p.Class == -1 && r.Intn(4) > 0 {
		p.Index = 0
	}
	return p
}

// act has both do one thing, and tells whether they tell the same.
func act(t *testing.T, r *rand.Rand, x *index.Index, m model, known []api.Place) []api.Place {
	t.Helper()
	turns := []struct {
		do       func(api.Place) bool
		from, to int
	}{{x.Drop, taken, free}, {x.Keep, taken, live}, {x.Free, live, free}}
	switch k := r.Intn(9); k {
	case 0, 1, 2:
		n := size(r)
		p, e := x.Take(n)
		want, we := m.take(n)
		if p != want || e != we {
			t.Fatalf("Take(%d) is %v, %v, not %v, %v", n, p, e, want, we)
		}
		if e == api.OK {
			known = append(known, p)
		}
	case 3, 4, 5, 6:
		p, turn := place(r, m, known), turns[k%3]
		if got, want := turn.do(p), m.turn(p, turn.from, turn.to); got != want {
			t.Fatalf("%v, from %d to %d, is %v", p, turn.from, turn.to, got)
		}
	case 7:
		lane, number := r.Intn(66)-1, r.Intn(10)-1
		i, e := x.TakeLog(lane, number)
		if want, we := m.takeLog(lane, number); i != want || e != we {
			t.Fatalf("TakeLog(%d, %d) is %d, %v, not %d, %v", lane, number, i, e, want, we)
		}
	case 8:
		i := r.Intn(len(m)+2) - 1
		if got, want := x.DropLog(i), m.dropLog(i); got != want {
			t.Fatalf("DropLog(%d) is %v", i, got)
		}
	}
	return known
}

func TestAsTheChapterTells(t *testing.T) {
	r := rand.New(rand.NewSource(17))
	for range 600 {
		m := start(r)
		tab := m.table()
		kept := slices.Clone(tab)
		x := index.New(tab)
		same(t, x, m)
		if len(tab) > 0 {
			tab[0] = 1 << 60
			x.Table()[0] = 1 << 60
		}
		var known []api.Place
		for i, c := range m {
			for b, what := range c.blocks {
				if what == live && c.kind == api.Run {
					known = append(known, api.Place{Chunk: i, Index: b, Class: c.class})
				} else if what == live {
					known = append(known, api.Place{Chunk: i, Class: -1, Many: c.many})
				}
			}
		}
		for range 120 {
			known = act(t, r, x, m, known)
			same(t, x, m)
		}
		again := index.New(kept)
		if got := again.Table(); !slices.Equal(got, kept) {
			t.Fatalf("one of %x tells %x", kept, got)
		}
	}
}

func TestExample(t *testing.T) {
	x := index.New([]uint64{0, 0})
	for _, step := range []struct {
		size int
		p    api.Place
		e    api.Errno
	}{
		{2, api.Place{Fresh: true}, api.OK},
		{2, api.Place{Index: 1}, api.OK},
		{15, api.Place{Chunk: 1, Class: -1, Many: 1}, api.OK},
		{15, api.Place{}, api.ErrNoSpace},
		{7, api.Place{}, api.ErrNoSpace},
		{1, api.Place{Index: 2}, api.OK},
		{-1, api.Place{}, api.ErrArg},
		{4097, api.Place{}, api.ErrArg},
	} {
		if p, e := x.Take(step.size); p != step.p || e != step.e {
			t.Errorf("Take(%d) is %v, %v", step.size, p, e)
		}
	}
	if got := x.Table(); !slices.Equal(got, []uint64{1, 0}) {
		t.Errorf("the table is %x", got)
	}
}

func TestEmptyRunsAreHad(t *testing.T) {
	x := index.New([]uint64{1, 1 | 1<<3, 0, 1 | 1<<24})
	if got := x.Rows(); !slices.Equal(got, []api.Span{{From: 0, Many: 3}}) {
		t.Fatalf("rows %v", got)
	}
	if p, e := x.Take(10); e != api.OK || p != (api.Place{Class: 2, Fresh: true}) {
		t.Errorf("%v, %v", p, e)
	}
	if p, e := x.Take(5); e != api.OK || p != (api.Place{Chunk: 1, Class: 1}) {
		t.Errorf("%v, %v", p, e)
	}
	if i, e := x.TakeLog(5, 3); e != api.OK || i != 2 {
		t.Errorf("%d, %v", i, e)
	}
	if i, e := x.TakeLog(5, 4); e != api.ErrNoSpace || i != 0 {
		t.Errorf("%d, %v", i, e)
	}
	if got := x.Table(); !slices.Equal(got, []uint64{1 | 2<<3, 1 | 1<<3, 4 | 5<<5 | 3<<11, 1 | 1<<24}) {
		t.Errorf("the table is %x", got)
	}
}

func TestLogsThatThereAreNot(t *testing.T) {
	x := index.New([]uint64{0})
	for _, l := range [][2]int{{-1, 0}, {64, 0}, {0, -1}, {0, 8}, {math.MinInt, 0}, {0, math.MaxInt}} {
		if i, e := x.TakeLog(l[0], l[1]); e != api.ErrArg || i != 0 {
			t.Errorf("TakeLog(%d, %d) is %d, %v", l[0], l[1], i, e)
		}
	}
	for _, i := range []int{math.MinInt, -1, 0, 1, math.MaxInt} {
		if x.DropLog(i) {
			t.Errorf("%d was a log", i)
		}
	}
	for _, p := range []api.Place{{Chunk: math.MinInt}, {Chunk: math.MaxInt}, {Index: math.MaxInt}, {Class: math.MinInt}, {Class: -1, Many: math.MaxInt}} {
		if x.Drop(p) || x.Keep(p) || x.Free(p) {
			t.Errorf("%v is one", p)
		}
	}
}

func TestTablesThatAreNotRight(t *testing.T) {
	for _, tab := range [][]uint64{{5}, {3}, {2 | 5<<11, 0}, {0, 0, 1 << 63}, nil} {
		x := index.New(tab)
		x.Take(2)
		x.Take(40)
		x.TakeLog(0, 0)
		x.DropLog(0)
		for i := -1; i < 3; i++ {
			for class := -1; class < 3; class++ {
				p := api.Place{Chunk: i, Class: class, Many: 5}
				x.Drop(p)
				x.Keep(p)
				x.Free(p)
			}
		}
		x.Table()
		x.Rows()
	}
}
