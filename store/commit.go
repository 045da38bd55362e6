package store

import (
	"lockfast/api"
	"lockfast/chunk"
	"lockfast/geo"
	"lockfast/journal"
	"lockfast/oid"
)

func (s *Store) commit(lane int) api.Errno {
	if e := s.mayGoOn(lane); e != api.OK {
		return e
	}
	l := s.lanes[lane]
	switch {
	case l.depth == 0:
		return api.ErrNoTx
	case l.depth > 1:
		l.depth = l.t.End()
	case l.t.Spoilt():
		s.takeBack(lane)
		return api.ErrAborted
	default:
		l.committing = true
	}
	return api.OK
}

func (s *Store) abort(lane int) api.Errno {
	if e := s.mayGoOn(lane); e != api.OK {
		return e
	}
	if s.lanes[lane].depth == 0 {
		return api.ErrNoTx
	}
	s.takeBack(lane)
	return api.OK
}

// takeBack has all be as it was ahead of the lane's transaction, which ends.
func (s *Store) takeBack(lane int) {
	journal.Heal(s.d, s.g, lane)
	s.end(lane, false)
}

// step does the next one of a commit's steps. It tells whether that was the last one.
func (s *Store) step(lane int) (bool, api.Errno) {
	// That a lane is committing is why it can't go on, but not why it can't do that.
	if e := s.mayGoOn(lane); e == api.OK {
		return false, api.ErrNoTx
	} else if e != api.ErrBusy {
		return false, e
	}
	steps := []func(int){s.save, s.ready, s.decide, s.carry, s.rest}
	l := s.lanes[lane]
	l.steps++
	steps[l.steps-1](lane)
	return l.steps == len(steps), api.OK
}

// save has all last that the transaction has changed, and made.
func (s *Store) save(lane int) {
	t := s.lanes[lane].t
	l := t.Noted()
	for _, f := range t.All() {
		l = append(l, api.Span{From: f.At, Many: f.Header.Size + oid.HeaderWords})
	}
	journal.Save(s.d, l)
}

func (s *Store) ready(lane int) { journal.Ready(s.d, s.g, lane, s.ops(lane)) }

func (s *Store) decide(lane int) { journal.Decide(s.d, s.g, lane, len(s.ops(lane))) }

// carry does what was decided; from then on other lanes are told of it.
func (s *Store) carry(lane int) {
	journal.Carry(s.d, s.ops(lane))
	t := s.lanes[lane].t
	for _, f := range t.All() {
		s.live[f.At] = f.Header
	}
	for _, at := range t.Gone() {
		delete(s.live, at)
	}
	if at, ok := t.Named(); ok {
		s.root = at
	}
}

func (s *Store) rest(lane int) {
	journal.Rest(s.d, s.g, lane)
	s.end(lane, true)
}

// end is where a lane's transaction ends, in the index, too.
func (s *Store) end(lane int, committed bool) {
	l := s.lanes[lane]
	for _, i := range l.logs {
		s.x.DropLog(i)
	}
	for _, f := range l.t.All() {
		if committed {
			s.x.Keep(f.Place)
		} else {
			s.x.Drop(f.Place)
		}
	}
	for _, p := range l.unmade {
		s.x.Drop(p)
	}
	for _, p := range l.freed {
		if committed {
			s.x.Free(p)
		}
	}
	s.locks.Release(lane)
	s.lanes[lane] = newLane()
}

// ops are the operations that a lane's transaction decides on.
func (s *Store) ops(lane int) []api.Op {
	l := s.lanes[lane]
	var ops []api.Op
	for _, f := range l.t.All() {
		ops = append(ops, s.taking(f.Place)...)
	}
	for _, p := range l.freed {
		ops = append(ops, s.freeing(p)...)
	}
	if at, ok := l.t.Named(); ok {
		ops = append(ops, api.Op{Kind: api.Set, At: geo.RootAt, Value: uint64(at)})
	}
	return ops
}

// taking are the operations that have what lies at a place be live.
func (s *Store) taking(p api.Place) []api.Op {
	if p.Class >= 0 {
		return []api.Op{{Kind: api.Or, At: s.tableAt(p.Chunk), Value: chunk.Bit(p.Index)}}
	}
	huge, _ := chunk.Encode(api.Chunk{Kind: api.Huge, Many: p.Many})
	tail, _ := chunk.Encode(api.Chunk{Kind: api.Tail})
	ops := []api.Op{{Kind: api.Set, At: s.tableAt(p.Chunk), Value: huge}}
	for i := 1; i < p.Many; i++ {
		ops = append(ops, api.Op{Kind: api.Set, At: s.tableAt(p.Chunk + i), Value: tail})
	}
	return ops
}

// freeing are the operations that have it be live no more.
func (s *Store) freeing(p api.Place) []api.Op {
	if p.Class >= 0 {
		return []api.Op{{Kind: api.And, At: s.tableAt(p.Chunk), Value: ^chunk.Bit(p.Index)}}
	}
	var ops []api.Op
	for i := range p.Many {
		ops = append(ops, api.Op{Kind: api.Set, At: s.tableAt(p.Chunk + i)})
	}
	return ops
}
