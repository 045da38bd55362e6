package sched_test

import (
	"math"
	"math/rand"
	"slices"
	"testing"

	"lockfast/api"
	"lockfast/journal"
	"lockfast/pmem"
	"lockfast/pool"
	"lockfast/sched"
	"lockfast/sound"
	"lockfast/store"
)

func create(t *testing.T, lanes, chunks int) (*store.Store, *pmem.Dev) {
	t.Helper()
	d, _ := pmem.New(10 + 73*lanes + 33*chunks)
	pool.Create(d, lanes)
	p, e := pool.Open(d)
	if e != api.OK {
		t.Fatal(e)
	}
	return store.New(p), d
}

// model is a schedule, as the chapter tells it, of a store of its own.
type model struct {
	s          *store.Store
	lanes      [][]api.Cmd
	committing map[int]bool
	vars       [16]api.Oid
}

func newModel(s *store.Store, lanes [][]api.Cmd) *model {
	return &model{s: s, lanes: slices.Clone(lanes), committing: map[int]bool{}}
}

func (m *model) ready() []int {
	var l []int
	for i := range m.lanes {
		if len(m.lanes[i]) > 0 || m.committing[i] {
			l = append(l, i)
		}
	}
	return l
}

func (m *model) name(i int) api.Oid {
	if i < 0 || i > 15 {
		return api.Oid{}
	}
	return m.vars[i]
}

func (m *model) keep(i int, x api.Event) {
	if x.E == api.OK && i >= 0 && i <= 15 {
		m.vars[i] = x.Oid
	}
}

func (m *model) pick(n uint8) (api.Event, bool) {
	l := m.ready()
	if len(l) == 0 {
		return api.Event{}, false
	}
	i := l[int(n)%len(l)]
	x := api.Event{Lane: i, Do: -1}
	if m.committing[i] {
		x.Done, x.E = m.s.Step(i)
		m.committing[i] = !x.Done && x.E == api.OK
		return x, true
	}
	c := m.lanes[i][0]
	m.lanes[i] = m.lanes[i][1:]
	x.Do = c.Do
	switch c.Do {
	case 0:
		depth, e := m.s.Begin(i)
		x.V, x.E = uint64(depth), e
	case 1:
		x.E = m.s.Add(i, m.name(c.Var), api.Span{From: c.At, Many: c.Many})
	case 2:
		x.E = m.s.Put(i, m.name(c.Var), c.At, c.V)
	case 3:
		x.V, x.E = m.s.Get(i, m.name(c.Var), c.At)
	case 4:
		x.Oid, x.E = m.s.Alloc(i, c.Type, c.Many)
		m.keep(c.Var, x)
	case 5:
		x.E = m.s.Free(i, m.name(c.Var))
	case 6:
		x.E = m.s.SetRoot(i, m.name(c.Var))
	case 7:
		x.Oid, x.E = m.s.Root(i)
		m.keep(c.Var, x)
	case 8:
		depth := m.s.Depth(i)
		_, x.E = m.s.Commit(i)
		m.committing[i] = x.E == api.OK && depth == 1 && m.s.Depth(i) == 1
	case 9:
		x.E = m.s.Abort(i)
	default:
		x.E = api.ErrArg
	}
	return x, true
}

// commands are some of a lane, mostly such that they will do.
func commands(r *rand.Rand) []api.Cmd {
	var l []api.Cmd
	for range r.Intn(40) {
		c := api.Cmd{Do: r.Intn(10), Var: r.Intn(4), Type: 1 + r.Intn(2), At: r.Intn(5), Many: 1 + r.Intn(4), V: uint64(r.Intn(100))}
		switch r.Intn(30) {
		case 0:
			c.Do = []int{-1, 10, 11, math.MinInt, math.MaxInt}[r.Intn(5)]
		case 1:
			c.Var = []int{-1, 15, 16, math.MinInt, math.MaxInt}[r.Intn(5)]
		case 2, 3, 4, 5:
			c.Do = api.New
		case 6, 7, 8, 9, 10:
			c.Do = api.Begin
		}
		if c.Do == api.Abort && r.Intn(3) > 0 {
			c.Do = api.Commit
		}
		l = append(l, c)
	}
	return l
}

func same(t *testing.T, x *sched.Sched, m *model) {
	t.Helper()
	if got := x.Ready(); !slices.Equal(got, m.ready()) {
		t.Fatalf("ready are %v, not %v", got, m.ready())
	}
	for _, i := range []int{math.MinInt, -1, 0, 1, 2, 3, 4, 14, 15, 16, math.MaxInt} {
		if x.Var(i) != m.name(i) {
			t.Fatalf("%d is kept as %v, not %v", i, x.Var(i), m.name(i))
		}
	}
}

func TestAsTheChapterTells(t *testing.T) {
	r := rand.New(rand.NewSource(23))
	for try := range 300 {
		s, d := create(t, 3, 8)
		other, od := create(t, 3, 8)
		var lanes [][]api.Cmd
		for range r.Intn(6) {
			lanes = append(lanes, commands(r))
		}
		if try%4 == 0 {
			fuse := r.Intn(300)
			d.Fuse(fuse)
			od.Fuse(fuse)
		}
		m := newModel(other, lanes)
		x := sched.New(s, lanes)
		for {
			same(t, x, m)
			n := uint8(r.Intn(256))
			got, ok := x.Pick(n)
			want, wok := m.pick(n)
			if got != want || ok != wok {
				t.Fatalf("a pick of %d is %v, %v, not %v, %v", n, got, ok, want, wok)
			}
			if !ok {
				break
			}
		}
		if !slices.Equal(journal.View(d), journal.View(od)) {
			t.Fatal("another pool comes of it")
		}
	}
}

func TestRun(t *testing.T) {
	r := rand.New(rand.NewSource(24))
	for range 100 {
		s, _ := create(t, 2, 8)
		other, _ := create(t, 2, 8)
		lanes := [][]api.Cmd{commands(r), commands(r)}
		x, m := sched.New(s, lanes), newModel(other, lanes)
		for range 3 {
			picks := make([]uint8, r.Intn(80))
			for i := range picks {
				picks[i] = uint8(r.Intn(256))
			}
			var want []api.Event
			for _, n := range picks {
				e, ok := m.pick(n)
				if !ok {
					break
				}
				want = append(want, e)
			}
			if got := x.Run(picks); !slices.Equal(got, want) {
				t.Fatalf("%v come of it, not %v", got, want)
			}
		}
	}
}

func TestExample(t *testing.T) {
	s, d := create(t, 1, 2)
	x := sched.New(s, [][]api.Cmd{{{Do: api.Begin}, {Do: api.New, Var: 5, Type: 1, Many: 2}, {Do: api.Put, Var: 5, V: 8}, {Do: api.Commit}}})
	l := x.Run([]uint8{9, 8, 7, 6, 5, 4, 3, 2, 1, 0})
	o := x.Var(5)
	want := []api.Event{{V: 1}, {Do: api.New, Oid: o}, {Do: api.Put}, {Do: api.Commit}, {Do: -1}, {Do: -1}, {Do: -1}, {Do: -1}, {Do: -1, Done: true}}
	if !slices.Equal(l, want) || o.Type != 1 {
		t.Errorf("%v", l)
	}
	if got := sound.Objects(d.Image()); len(got) != 1 || got[0].Oid != o || got[0].Data[0] != 8 {
		t.Errorf("%v", got)
	}
}

func TestNone(t *testing.T) {
	s, _ := create(t, 1, 2)
	for _, lanes := range [][][]api.Cmd{nil, {}, {nil, {}, nil}} {
		x := sched.New(s, lanes)
		if e, ok := x.Pick(3); ok || e != (api.Event{}) {
			t.Errorf("%v", e)
		}
		if l := x.Run([]uint8{1, 2}); len(l) != 0 || len(x.Ready()) != 0 {
			t.Errorf("%v", l)
		}
	}
}

func TestMemoryOfItsOwn(t *testing.T) {
	s, _ := create(t, 1, 2)
	lanes := [][]api.Cmd{{{Do: api.Begin}, {Do: api.Commit}}, {{Do: api.Begin}}}
	x := sched.New(s, lanes)
	lanes[0][0].Do, lanes[1] = api.Abort, nil
	x.Ready()[0] = 7
	if got := x.Ready(); !slices.Equal(got, []int{0, 1}) {
		t.Errorf("ready are %v", got)
	}
	if e, ok := x.Pick(0); !ok || e != (api.Event{Lane: 0, Do: api.Begin, V: 1}) {
		t.Errorf("%v", e)
	}
	// A lane that the store hasn't has its turn, too.
	if e, ok := x.Pick(1); !ok || e != (api.Event{Lane: 1, Do: api.Begin, E: api.ErrArg}) {
		t.Errorf("%v", e)
	}
}

func TestWhatOthersDoPlaysNoPart(t *testing.T) {
	s, _ := create(t, 2, 4)
	x := sched.New(s, [][]api.Cmd{{{Do: api.Begin}, {Do: api.Commit}, {Do: api.Root}}, nil})
	x.Run([]uint8{0, 0, 0})
	for range 4 {
		s.Step(0)
	}
	if got := x.Ready(); !slices.Equal(got, []int{0}) {
		t.Errorf("ready are %v", got)
	}
	// Its commit has come to an end elsewhere.
	if e, _ := x.Pick(0); e != (api.Event{Do: -1, E: api.ErrNoTx}) {
		t.Errorf("%v", e)
	}
	if e, _ := x.Pick(0); e != (api.Event{Do: api.Root}) {
		t.Errorf("%v", e)
	}
	s.Begin(1)
	s.Commit(1)
	if got := x.Ready(); len(got) != 0 {
		t.Errorf("ready are %v", got)
	}
}

func TestDeeper(t *testing.T) {
	s, _ := create(t, 1, 4)
	x := sched.New(s, [][]api.Cmd{{{Do: api.Begin}, {Do: api.Begin}, {Do: api.Commit}, {Do: api.Commit}, {Do: api.Abort}}})
	l := x.Run(make([]uint8, 12))
	want := []api.Event{{V: 1}, {V: 2}, {Do: api.Commit}, {Do: api.Commit}, {Do: -1}, {Do: -1}, {Do: -1}, {Do: -1}, {Do: -1, Done: true}, {Do: api.Abort, E: api.ErrNoTx}}
	if !slices.Equal(l, want) {
		t.Errorf("%v", l)
	}
}
