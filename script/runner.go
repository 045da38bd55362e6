package script

import (
	"strconv"

	"lockfast/api"
	"lockfast/oid"
	"lockfast/pmem"
	"lockfast/pool"
	"lockfast/store"
)

// runner is what there is while a script runs: no device, or no store, at first.
type runner struct {
	d    *pmem.Dev
	s    *store.Store
	vars [api.Vars]api.Oid
}

func (r *runner) verbs() map[string]verb {
	return map[string]verb{
		"pool":   {"nn", r.always, r.pool},
		"open":   {"", r.hasDevice, r.open},
		"crash":  {"k", r.hasDevice, r.crash},
		"fuse":   {"n", r.hasDevice, r.fuse},
		"evict":  {"n", r.hasDevice, r.evict},
		"steps":  {"", r.hasDevice, r.steps},
		"begin":  {"n", r.hasStore, r.begin},
		"add":    {"nvnn", r.hasStore, r.add},
		"put":    {"nvnx", r.hasStore, r.put},
		"get":    {"nvn", r.hasStore, r.get},
		"new":    {"nvnn", r.hasStore, r.alloc},
		"drop":   {"nv", r.hasStore, r.drop},
		"root":   {"nv", r.hasStore, r.root},
		"none":   {"n", r.hasStore, r.none},
		"which":  {"nv", r.hasStore, r.which},
		"commit": {"n", r.hasStore, r.commit},
		"abort":  {"n", r.hasStore, r.abort},
		"step":   {"n", r.hasStore, r.step},
		"list":   {"n", r.hasStore, r.list},
	}
}

func (r *runner) always() bool    { return true }
func (r *runner) hasDevice() bool { return r.d != nil }
func (r *runner) hasStore() bool  { return r.s != nil }

func (r *runner) pool(a args) string {
	r.s = nil
	d, e := pmem.New(a.n[0])
	if e == api.OK {
		r.d = d
		e = pool.Create(d, a.n[1])
	}
	return tell(e)
}

func (r *runner) open(args) string {
	r.s = nil
	p, e := pool.Open(r.d)
	if e == api.OK {
		r.s = store.New(p)
	}
	return tell(e)
}

func (r *runner) crash(a args) string {
	r.d.Crash(a.keep)
	r.s = nil
	return tell(api.OK)
}

func (r *runner) fuse(a args) string {
	r.d.Fuse(a.n[0])
	return tell(api.OK)
}

func (r *runner) evict(a args) string {
	r.d.Evict(a.n[0])
	return tell(api.OK)
}

func (r *runner) steps(args) string {
	return tell(api.OK, strconv.Itoa(r.d.Steps()))
}

func (r *runner) begin(a args) string {
	depth, e := r.s.Begin(a.n[0])
	return tell(e, strconv.Itoa(depth))
}

func (r *runner) add(a args) string {
	return tell(r.s.Add(a.n[0], r.vars[a.n[1]], api.Span{From: a.n[2], Many: a.n[3]}))
}

func (r *runner) put(a args) string {
	return tell(r.s.Put(a.n[0], r.vars[a.n[1]], a.n[2], a.x))
}

func (r *runner) get(a args) string {
	w, e := r.s.Get(a.n[0], r.vars[a.n[1]], a.n[2])
	return tell(e, strconv.FormatUint(w, 10))
}

func (r *runner) alloc(a args) string {
	o, e := r.s.Alloc(a.n[0], a.n[2], a.n[3])
	return r.keep(a.n[1], o, e)
}

func (r *runner) drop(a args) string {
	return tell(r.s.Free(a.n[0], r.vars[a.n[1]]))
}

func (r *runner) root(a args) string {
	return tell(r.s.SetRoot(a.n[0], r.vars[a.n[1]]))
}

func (r *runner) none(a args) string {
	return tell(r.s.SetRoot(a.n[0], api.Oid{}))
}

func (r *runner) which(a args) string {
	o, e := r.s.Root(a.n[0])
	return r.keep(a.n[1], o, e)
}

func (r *runner) commit(a args) string {
	_, e := r.s.Commit(a.n[0])
	return tell(e)
}

func (r *runner) abort(a args) string {
	return tell(r.s.Abort(a.n[0]))
}

func (r *runner) step(a args) string {
	done, e := r.s.Step(a.n[0])
	if done {
		return tell(e, "done")
	}
	return tell(e)
}

func (r *runner) list(a args) string {
	var texts []string
	for _, o := range r.s.List(a.n[0]) {
		texts = append(texts, oid.Text(o))
	}
	return tell(api.OK, texts...)
}

// keep keeps a name, and tells it, if there is no error.
func (r *runner) keep(i int, o api.Oid, e api.Errno) string {
	if e == api.OK {
		r.vars[i] = o
	}
	return tell(e, oid.Text(o))
}

// tell is what is told: more behind ok, or an error's number.
func tell(e api.Errno, more ...string) string {
	if e != api.OK {
		return "error " + strconv.Itoa(int(e))
	}
	text := "ok"
	for _, m := range more {
		text += " " + m
	}
	return text
}
