package store_test

import (
	"maps"
	"slices"
	"testing"

	"lockfast/api"
	"lockfast/pmem"
	"lockfast/pool"
	"lockfast/store"
)

// thing is an object, as the model has it.
type thing struct {
	name api.Oid
	data []uint64
}

// laneModel is a lane, as the chapter tells it: of an object that it stores to it has the words as they were.
type laneModel struct {
	depth      int
	spoilt     bool
	committing bool
	steps      int
	made       map[int]thing
	old        map[int][]uint64
	noted      map[int]map[int]bool
	freed      []int
	named      bool
	root       int
	logWords   int
	logs       int
}

func newLaneModel() *laneModel {
	return &laneModel{made: map[int]thing{}, old: map[int][]uint64{}, noted: map[int]map[int]bool{}}
}

// model is a store, as the chapter tells it, with a pool in which there is always room.
type model struct {
	live  map[int]thing
	root  int
	locks map[int]int
	lanes []*laneModel
}

func newModel(lanes int) *model {
	m := &model{live: map[int]thing{}, locks: map[int]int{}}
	for range lanes {
		m.lanes = append(m.lanes, newLaneModel())
	}
	return m
}

func (m *model) spoil(lane int, e api.Errno) api.Errno {
	if (e == api.ErrConflict || e == api.ErrLogFull || e == api.ErrNoSpace) && m.lanes[lane].depth > 0 {
		m.lanes[lane].spoilt = true
	}
	return e
}

func (m *model) goOn(lane int) api.Errno {
	if lane < 0 || lane >= len(m.lanes) {
		return api.ErrArg
	}
	if m.lanes[lane].committing {
		return api.ErrBusy
	}
	return api.OK
}

func (m *model) work(lane int) api.Errno {
	e := m.goOn(lane)
	if e == api.OK && m.lanes[lane].depth == 0 {
		e = api.ErrNoTx
	} else if e == api.OK && m.lanes[lane].spoilt {
		e = api.ErrAborted
	}
	return e
}

func (m *model) read(lane int) api.Errno {
	e := m.goOn(lane)
	if e == api.OK && m.lanes[lane].spoilt {
		e = api.ErrAborted
	}
	return e
}

func (m *model) lock(key, lane int) bool {
	if o, ok := m.locks[key]; ok {
		return o == lane
	}
	m.locks[key] = lane
	return true
}

func (m *model) find(lane int, o api.Oid) (thing, api.Errno) {
	if x, ok := m.lanes[lane].made[o.At]; ok && x.name == o {
		return x, api.OK
	}
	if x, ok := m.live[o.At]; ok && x.name == o && !slices.Contains(m.lanes[lane].freed, o.At) {
		return x, api.OK
	}
	for _, l := range m.lanes {
		if x, ok := l.made[o.At]; ok && x.name == o {
			return thing{}, api.ErrConflict
		}
	}
	return thing{}, api.ErrBadOid
}

func (m *model) begin(lane int) (int, api.Errno) {
	if e := m.goOn(lane); e != api.OK {
		return 0, e
	}
	m.lanes[lane].depth++
	return m.lanes[lane].depth, api.OK
}

func (m *model) add(lane int, o api.Oid, s api.Span) api.Errno {
	if e := m.work(lane); e != api.OK {
		return e
	}
	x, e := m.find(lane, o)
	if e != api.OK {
		return e
	}
	if s.Many < 1 || s.From < 0 || s.Many > len(x.data) || s.From+s.Many > len(x.data) {
		return api.ErrRange
	}
	if !m.lock(o.At, lane) {
		return api.ErrConflict
	}
	l := m.lanes[lane]
	if _, fresh := l.made[o.At]; fresh {
		return api.OK
	}
	if l.noted[o.At] == nil {
		l.noted[o.At] = map[int]bool{}
		l.old[o.At] = slices.Clone(x.data)
	}
	// Words in a row that are new are one entry, of two words more.
	var rows []int
	inRow := false
	for i := s.From; i < s.From+s.Many; i++ {
		if !l.noted[o.At][i] && !inRow {
			rows = append(rows, 0)
		}
		inRow = !l.noted[o.At][i]
		if inRow {
			rows[len(rows)-1]++
		}
	}
	for i := s.From; i < s.From+s.Many; i++ {
		l.noted[o.At][i] = true
	}
	for _, n := range rows {
		l.logWords += n + 2
		for l.logWords > 32+32*l.logs {
			if l.logs == 8 {
				return api.ErrLogFull
			}
			l.logs++
		}
	}
	return api.OK
}

func (m *model) put(lane int, o api.Oid, at int, v uint64) api.Errno {
	if e := m.work(lane); e != api.OK {
		return e
	}
	x, e := m.find(lane, o)
	if e != api.OK {
		return e
	}
	if at < 0 || at >= len(x.data) {
		return api.ErrRange
	}
	if !m.lock(o.At, lane) {
		return api.ErrConflict
	}
	if _, fresh := m.lanes[lane].made[o.At]; !fresh && !m.lanes[lane].noted[o.At][at] {
		return api.ErrNotSnapshotted
	}
	x.data[at] = v
	return api.OK
}

func (m *model) get(lane int, o api.Oid, at int) (uint64, api.Errno) {
	if e := m.read(lane); e != api.OK {
		return 0, e
	}
	x, e := m.find(lane, o)
	if e != api.OK {
		return 0, e
	}
	if at < 0 || at >= len(x.data) {
		return 0, api.ErrRange
	}
	if e := m.share(lane, o.At); e != api.OK {
		return 0, e
	}
	return x.data[at], api.OK
}

func (m *model) share(lane, key int) api.Errno {
	if _, owned := m.locks[key]; m.lanes[lane].depth == 0 && owned || m.lanes[lane].depth > 0 && !m.lock(key, lane) {
		return api.ErrConflict
	}
	return api.OK
}

func chunksOf(size int) int {
	if size <= 14 {
		return 0
	}
	return (size + 33) / 32
}

func (m *model) ops(lane int) int {
	l := m.lanes[lane]
	n := 0
	for _, x := range l.made {
		n += max(chunksOf(len(x.data)), 1)
	}
	for _, at := range l.freed {
		n += max(chunksOf(len(m.live[at].data)), 1)
	}
	if l.named {
		n++
	}
	return n
}

// mayAlloc is the error of an Alloc; the name is the store's own.
func (m *model) mayAlloc(lane, typ, size int) api.Errno {
	if e := m.work(lane); e != api.OK {
		return e
	}
	if typ < 1 || typ > 65535 || size < 0 || size > 4096 {
		return api.ErrArg
	}
	if m.ops(lane)+max(chunksOf(size), 1) > 19 {
		return api.ErrLogFull
	}
	return api.OK
}

func (m *model) rootOf(lane int) int {
	if m.lanes[lane].named {
		return m.lanes[lane].root
	}
	return m.root
}

func (m *model) free(lane int, o api.Oid) api.Errno {
	if e := m.work(lane); e != api.OK {
		return e
	}
	if _, e := m.find(lane, o); e != api.OK {
		return e
	}
	if !m.lock(o.At, lane) {
		return api.ErrConflict
	}
	l := m.lanes[lane]
	if m.rootOf(lane) == o.At {
		if !m.lock(0, lane) {
			return api.ErrConflict
		}
		l.named, l.root = true, 0
	}
	if _, fresh := l.made[o.At]; fresh {
		delete(l.made, o.At)
		return api.OK
	}
	l.freed = append(l.freed, o.At)
	return m.opsHold(lane)
}

func (m *model) opsHold(lane int) api.Errno {
	if m.ops(lane) > 19 {
		return api.ErrLogFull
	}
	return api.OK
}

func (m *model) setRoot(lane int, o api.Oid) api.Errno {
	if e := m.work(lane); e != api.OK {
		return e
	}
	if o != (api.Oid{}) {
		if _, e := m.find(lane, o); e != api.OK {
			return e
		}
	}
	if !m.lock(0, lane) || !m.lock(o.At, lane) {
		return api.ErrConflict
	}
	m.lanes[lane].named, m.lanes[lane].root = true, o.At
	return m.opsHold(lane)
}

func (m *model) rootName(lane int) (api.Oid, api.Errno) {
	if e := m.read(lane); e != api.OK {
		return api.Oid{}, e
	}
	if e := m.share(lane, 0); e != api.OK {
		return api.Oid{}, e
	}
	at := m.rootOf(lane)
	if x, ok := m.lanes[lane].made[at]; ok {
		return x.name, api.OK
	}
	return m.live[at].name, api.OK
}

func (m *model) commit(lane int) api.Errno {
	if e := m.goOn(lane); e != api.OK {
		return e
	}
	l := m.lanes[lane]
	switch {
	case l.depth == 0:
		return api.ErrNoTx
	case l.depth > 1:
		l.depth--
	case l.spoilt:
		m.takeBack(lane)
		return api.ErrAborted
	default:
		l.committing = true
	}
	return api.OK
}

func (m *model) step(lane int) (bool, api.Errno) {
	if lane < 0 || lane >= len(m.lanes) {
		return false, api.ErrArg
	}
	l := m.lanes[lane]
	if !l.committing {
		return false, api.ErrNoTx
	}
	l.steps++
	if l.steps == 4 {
		m.live, m.root = m.carried(m.live, m.root, lane)
	}
	if l.steps == 5 {
		m.end(lane)
	}
	return l.steps == 5, api.OK
}

// carried is what is live, and the root, when a lane has carried what it did.
func (m *model) carried(live map[int]thing, root, lane int) (map[int]thing, int) {
	l := m.lanes[lane]
	out := maps.Clone(live)
	for at, x := range l.made {
		out[at] = x
	}
	for _, at := range l.freed {
		delete(out, at)
	}
	if l.named {
		root = l.root
	}
	return out, root
}

func (m *model) abort(lane int) api.Errno {
	if e := m.goOn(lane); e != api.OK {
		return e
	}
	if m.lanes[lane].depth == 0 {
		return api.ErrNoTx
	}
	m.takeBack(lane)
	return api.OK
}

func (m *model) takeBack(lane int) {
	for at, data := range m.lanes[lane].old {
		copy(m.live[at].data, data)
	}
	m.end(lane)
}

func (m *model) end(lane int) {
	maps.DeleteFunc(m.locks, func(_, owner int) bool { return owner == lane })
	m.lanes[lane] = newLaneModel()
}

func (m *model) list(typ int) []api.Oid {
	var l []api.Oid
	for _, at := range slices.Sorted(maps.Keys(m.live)) {
		if x := m.live[at]; typ == 0 || typ == x.name.Type {
			l = append(l, x.name)
		}
	}
	return l
}

// opened is what a pool must have, opened again: of each lane that is told all that it did, and nothing of the others.
func (m *model) opened(decided func(lane int) bool) (map[int]thing, int) {
	live, root := map[int]thing{}, m.root
	for at, x := range m.live {
		live[at] = thing{x.name, slices.Clone(x.data)}
	}
	for lane, l := range m.lanes {
		if l.steps >= 4 {
			continue
		}
		if decided(lane) {
			live, root = m.carried(live, root, lane)
			continue
		}
		for at, data := range l.old {
			live[at] = thing{live[at].name, data}
		}
	}
	return live, root
}

// create is a store of a new pool, in a device of so many lanes and chunks.
func create(t *testing.T, lanes, chunks int) (*store.Store, *pmem.Dev, *pool.Pool) {
	t.Helper()
	d, _ := pmem.New(10 + 73*lanes + 33*chunks)
	if e := pool.Create(d, lanes); e != api.OK {
		t.Fatal(e)
	}
	p, e := pool.Open(d)
	if e != api.OK {
		t.Fatal(e)
	}
	return store.New(p), d, p
}
