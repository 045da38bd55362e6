package store

import (
	"lockfast/api"
	"lockfast/chunk"
	"lockfast/class"
	"lockfast/geo"
	"lockfast/journal"
	"lockfast/oid"
	"lockfast/redo"
	"lockfast/sound"
	"lockfast/tx"
)

// maxLogs is how many chunks a lane's log may go on in.
const maxLogs = 8

func (s *Store) begin(lane int) (int, api.Errno) {
	if e := s.mayGoOn(lane); e != api.OK {
		return 0, e
	}
	l := s.lanes[lane]
	if l.depth == 0 {
		l.t = tx.New()
		journal.Begin(s.d, s.g, lane)
	}
	l.depth = l.t.Begin()
	return l.depth, api.OK
}

func (s *Store) add(lane int, o api.Oid, words api.Span) api.Errno {
	if e := s.mayWork(lane); e != api.OK {
		return e
	}
	h, e := s.find(lane, o)
	if e != api.OK {
		return e
	}
	if words.Many < 1 || words.From < 0 || words.From > h.Size-words.Many {
		return api.ErrRange
	}
	if !s.locks.Lock(o.At, lane) {
		return api.ErrConflict
	}
	for _, x := range s.lanes[lane].t.Note(api.Span{From: word(o, words.From), Many: words.Many}) {
		if e := s.note(lane, x); e != api.OK {
			return e
		}
	}
	return api.OK
}

// note writes words down in the lane's log, which goes on in more chunks till there is room for them.
func (s *Store) note(lane int, x api.Span) api.Errno {
	for {
		e := journal.Note(s.d, s.g, lane, x)
		if e != api.ErrLogFull {
			return e
		}
		if e := s.grow(lane); e != api.OK {
			return e
		}
	}
}

func (s *Store) grow(lane int) api.Errno {
	l := s.lanes[lane]
	if len(l.logs) >= maxLogs {
		return api.ErrLogFull
	}
	i, e := s.x.TakeLog(lane, len(l.logs))
	if e != api.OK {
		return api.ErrLogFull
	}
	l.logs = append(l.logs, i)
	return journal.Grow(s.d, s.g, lane, i)
}

func (s *Store) put(lane int, o api.Oid, at int, v uint64) api.Errno {
	if e := s.mayWork(lane); e != api.OK {
		return e
	}
	h, e := s.find(lane, o)
	if e != api.OK {
		return e
	}
	if at < 0 || at >= h.Size {
		return api.ErrRange
	}
	if !s.locks.Lock(o.At, lane) {
		return api.ErrConflict
	}
	if !s.lanes[lane].t.May(api.Span{From: word(o, at), Many: 1}) {
		return api.ErrNotSnapshotted
	}
	s.d.Store(word(o, at), v)
	return api.OK
}

func (s *Store) get(lane int, o api.Oid, at int) (uint64, api.Errno) {
	if e := s.mayRead(lane); e != api.OK {
		return 0, e
	}
	h, e := s.find(lane, o)
	if e != api.OK {
		return 0, e
	}
	if at < 0 || at >= h.Size {
		return 0, api.ErrRange
	}
	if e := s.share(lane, o.At); e != api.OK {
		return 0, e
	}
	return s.d.Load(word(o, at)), api.OK
}

func (s *Store) alloc(lane, typ, size int) (api.Oid, api.Errno) {
	if e := s.mayWork(lane); e != api.OK {
		return api.Oid{}, e
	}
	if typ < 1 || typ > api.MaxType || !class.Right(size) {
		return api.Oid{}, api.ErrArg
	}
	if len(s.ops(lane))+max(class.Chunks(size), 1) > redo.MaxOps {
		return api.Oid{}, api.ErrLogFull
	}
	p, e := s.x.Take(size)
	if e != api.OK {
		return api.Oid{}, e
	}
	if p.Fresh {
		run, _ := chunk.Encode(api.Chunk{Kind: api.Run, Class: p.Class})
		journal.Carry(s.d, []api.Op{{Kind: api.Set, At: s.tableAt(p.Chunk), Value: run}})
	}
	at := sound.Place(s.g, api.Block{Chunk: p.Chunk, Index: p.Index, Words: class.Block(p.Class)})
	h := api.Header{Type: typ, Size: size, Serial: s.p.Serial()}
	s.lay(at, h)
	s.locks.Lock(at, lane)
	s.lanes[lane].t.Make(api.Fresh{Place: p, At: at, Header: h})
	return oid.Name(at, h), api.OK
}

// lay stores a new object's words.
func (s *Store) lay(at int, h api.Header) {
	words, _ := oid.Encode(h)
	words = append(words, make([]uint64, h.Size)...)
	for i, w := range words {
		s.d.Store(at+i, w)
	}
}

func (s *Store) free(lane int, o api.Oid) api.Errno {
	if e := s.mayWork(lane); e != api.OK {
		return e
	}
	h, e := s.find(lane, o)
	if e != api.OK {
		return e
	}
	if !s.locks.Lock(o.At, lane) {
		return api.ErrConflict
	}
	l := s.lanes[lane]
	if s.rootOf(lane) == o.At {
		if !s.locks.Lock(rootKey, lane) {
			return api.ErrConflict
		}
		l.t.Name(0)
	}
	if f, ok := l.t.Unmake(o.At); ok {
		l.unmade = append(l.unmade, f.Place)
		return api.OK
	}
	l.t.Free(o.At)
	l.freed = append(l.freed, s.place(o.At, h.Size))
	return s.opsHold(lane)
}

func (s *Store) setRoot(lane int, o api.Oid) api.Errno {
	if e := s.mayWork(lane); e != api.OK {
		return e
	}
	if o != (api.Oid{}) {
		if _, e := s.find(lane, o); e != api.OK {
			return e
		}
	}
	// The zero name lies where the root's own lock is: it has no other one.
	if !s.locks.Lock(rootKey, lane) || !s.locks.Lock(o.At, lane) {
		return api.ErrConflict
	}
	s.lanes[lane].t.Name(o.At)
	return s.opsHold(lane)
}

func (s *Store) rootName(lane int) (api.Oid, api.Errno) {
	if e := s.mayRead(lane); e != api.OK {
		return api.Oid{}, e
	}
	if e := s.share(lane, rootKey); e != api.OK {
		return api.Oid{}, e
	}
	at := s.rootOf(lane)
	if f, ok := s.lanes[lane].t.Made(at); ok {
		return oid.Name(at, f.Header), api.OK
	}
	if h, ok := s.live[at]; ok {
		return oid.Name(at, h), api.OK
	}
	return api.Oid{}, api.OK
}

// opsHold is why a lane has more operations than may be.
func (s *Store) opsHold(lane int) api.Errno {
	if len(s.ops(lane)) > redo.MaxOps {
		return api.ErrLogFull
	}
	return api.OK
}

// place is what a live object has of the index.
func (s *Store) place(at, size int) api.Place {
	i, word := geo.Of(s.g, at)
	of := class.Of(size)
	if of < 0 {
		return api.Place{Chunk: i, Class: of, Many: class.Chunks(size)}
	}
	return api.Place{Chunk: i, Index: word / class.Block(of), Class: of}
}

// word is the place of an object's word.
func word(o api.Oid, at int) int { return o.At + oid.HeaderWords + at }
