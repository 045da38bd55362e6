package script_test

import (
	"fmt"
	"math/rand"
	"strings"
	"testing"

	"lockfast/api"
	"lockfast/oid"
	"lockfast/pmem"
	"lockfast/pool"
	"lockfast/script"
	"lockfast/store"
)

func run(t *testing.T, s string) string {
	t.Helper()
	out, line, e := script.Run(s)
	if line != 0 || e != api.OK {
		t.Fatalf("%q: line %d, %v", s, line, e)
	}
	return out
}

// tells fails, if the lines of a script don't tell just this; a line begins with what is told ahead of " | ".
func tells(t *testing.T, table string) {
	t.Helper()
	var lines, want []string
	for _, row := range strings.Split(strings.TrimSpace(table), "\n") {
		told, line, _ := strings.Cut(strings.TrimSpace(row), " | ")
		lines, want = append(lines, line), append(want, strings.TrimSpace(told))
	}
	got := strings.Split(strings.TrimSuffix(run(t, strings.Join(lines, "\n")), "\n"), "\n")
	for i, line := range lines {
		if i >= len(got) || got[i] != want[i] {
			t.Fatalf("%q tells %q, not %q", line, got[min(i, len(got)-1)], want[i])
		}
	}
	if len(got) != len(want) {
		t.Fatalf("%d lines tell %d", len(want), len(got))
	}
}

func TestExamples(t *testing.T) {
	tells(t, `
ok | pool 149 1
ok | open
ok 1 | begin 0
ok 85.7.4294967297 | new 0 1 7 2`)
	tells(t, `
none | open
none | begin 0`)
	tells(t, `error 1 | pool 100 1`)
	for _, s := range []string{"begin", "begin 01", "go"} {
		if out, line, e := script.Run(s); out != "" || line != 1 || e != api.ErrScript {
			t.Errorf("%q: %q, %d, %v", s, out, line, e)
		}
	}
}

func TestAllLines(t *testing.T) {
	tells(t, `
ok | pool 500 2
ok | open
error 8 | abort 0
error 8 | commit 1
error 8 | step 0
error 1 | begin 2
ok 1 | begin 0
ok 2 | begin 0
ok 166.9.4294967297 | new 0 3 9 3
ok | put 0 3 2 18446744073709551615
ok 18446744073709551615 | get 0 3 2
error 13 | get 0 3 3
error 5 | get 0 4 0
error 4 | get 1 3 0
error 1 | new 0 4 0 3
error 1 | new 0 4 65536 3
ok | root 0 3
ok 166.9.4294967297 | which 0 15
ok | commit 0
ok | commit 0
error 11 | commit 0
ok | step 0
ok | step 0
ok | step 0
ok | step 0
ok done | step 0
ok 18446744073709551615 | get 1 15 2
ok 166.9.4294967297 | list 0
ok 166.9.4294967297 | list 9
ok | list 8
ok 1 | begin 1
error 6 | put 1 3 0 5
ok | add 1 3 0 2
error 13 | add 1 3 2 2
ok | put 1 3 0 5
ok | none 1
ok 0.0.0 | which 1 14
ok 174.1.4294967298 | new 1 0 1 5
ok | drop 1 3
error 5 | get 1 3 0
ok | abort 1
ok 0 | get 0 3 0
ok 166.9.4294967297 | which 0 2
ok 1 | begin 1
ok 174.1.4294967299 | new 1 0 1 5
ok | commit 1
ok | step 1
ok | step 1
ok | step 1
ok | step 1
ok done | step 1
ok 166.9.4294967297 174.1.4294967299 | list 0
ok 1 | begin 0
error 3 | new 0 9 1 607
error 10 | new 0 9 1 1
error 10 | commit 0
ok | open
ok 1 | begin 0
ok | add 0 3 0 3
ok | fuse 2
ok | put 0 3 1 1
error 12 | put 0 3 2 2
error 12 | begin 1
error 12 | open
none | begin 1
ok | crash -
none | begin 1
ok | open
ok 0 | get 0 3 1
ok 18446744073709551615 | get 0 3 2`)
}

func TestDevicesAndStores(t *testing.T) {
	tells(t, `
none | open
none | crash 012
none | fuse 1
none | evict 0
none | steps
none | list 0
none | step 0
ok | pool 149 1
none | list 0
ok 92 | steps
ok | open
ok 95 | steps
ok | list 0
error 1 | pool 0 1
none | list 0
ok 95 | steps
ok | open
ok | list 0
error 1 | pool 65537 1
none | list 0
error 1 | pool 140 2
ok 0 | steps
error 7 | open
none | list 0
ok | evict 5
ok | evict 999999
ok 1 | steps
ok | pool 65536 64
ok | open
ok | fuse 0
ok | open
ok | crash 2
none | list 0
ok | open
error 1 | pool 999999 999999
ok | open`)
}

func TestKeptInACrash(t *testing.T) {
	// A device dies while a pool is opened, ahead of the epoch's flush, or of the fence; the next epoch tells what was left of it.
	for _, x := range []struct {
		fuse        int
		keep, epoch string
	}{{2, "-", "1"}, {2, "0", "1"}, {2, "1", "1"}, {2, "2", "2"}, {3, "-", "1"}, {3, "0", "1"}, {3, "1", "2"}, {3, "2", "2"}, {3, "02", "1"}, {3, "200", "2"}} {
		serial := map[string]string{"1": "4294967297", "2": "8589934593"}[x.epoch]
		tells(t, `
ok | pool 149 1
ok | fuse `+fmt.Sprint(x.fuse)+`
error 12 | open
none | list 0
ok | crash `+x.keep+`
ok | open
ok 1 | begin 0
ok 85.7.`+serial+` | new 0 1 7 2`)
	}
	tells(t, `
ok | pool 149 1
ok | open
ok 1 | begin 0
ok 85.7.4294967297 | new 0 1 7 2
ok | commit 0
ok | step 0
ok | step 0
ok | step 0
ok | crash 2222222222
none | step 0
ok | open
ok 85.7.4294967297 | list 0
ok 0 | get 0 1 1`)
}

func TestLinesThatAreNone(t *testing.T) {
	good := []string{"pool 0 0", "pool 999999 999999", "open", "crash -", "crash 0", "crash 012", "crash " + strings.Repeat("1", 200), "fuse 0", "evict 999999", "steps", "begin 0", "add 0 15 0 0", "put 1 2 3 0", "put 1 2 3 18446744073709551615", "get 0 0 0", "new 0 0 0 0", "drop 0 0", "root 0 0", "none 0", "which 0 0", "commit 0", "abort 0", "step 0", "list 0", "list 999999", "", "#", "# go", "#go\t\x00\xff", "###"}
	for _, s := range good {
		run(t, s)
	}
	bad := []string{"go", " ", "  ", "\t", "\r", " # go", "Begin 0", "BEGIN 0", "begin", "begin ", "begin  0", "begin 0 ", " begin 0", "begin 0 0", "begin 00", "begin -1", "begin +1", "begin 1000000", "begin 18446744073709551616", "begin 1_0", "begin 0x1", "begin 1e1", "begin a", "begin 0\r", "begin\t0", "begin 0\x00", "begin ٣",
		"pool 149", "pool 149 1 1", "pool 1000000 1", "pool 1 1000000", "pool -", "open 0", "open ", "crash", "crash ", "crash 3", "crash -1", "crash --", "crash 0 1", "crash 0x", "crash " + strings.Repeat("1", 201), "crash -0", "fuse", "fuse -1", "fuse 1000000", "evict", "evict -1", "evict 1000000", "steps 0",
		"add 0 0 0", "add 0 16 0 0", "add 0 0 0 0 0", "add 0 01 0 0", "add 0 0 1000000 0", "put 0 0 0", "put 0 16 0 0", "put 0 0 0 -1", "put 0 0 0 18446744073709551616", "put 0 0 0 00", "put 0 0 0 01", "put 0 0 1000000 0", "get 0 0", "get 0 16 0", "get 0 0 0 0", "new 0 0 0", "new 0 16 1 1", "new 0 0 1000000 1", "drop 0", "drop 0 16", "drop 0 0 0", "root 0", "root 0 16", "none", "none 0 0", "which 0", "which 0 16", "commit", "commit 0 0", "abort", "step", "step 0 1", "list", "list 1000000", "list -1", "none -", "ok", "error 1"}
	for _, s := range bad {
		for ahead, want := range map[string]int{"": 1, "\n": 2, "open\n# x\n\n": 4, "pool 149 1\nopen\nbegin 0\n": 4} {
			for _, behind := range []string{"", "\n", "\ngo\nbegin"} {
				if out, line, e := script.Run(ahead + s + behind); out != "" || line != want || e != api.ErrScript {
					t.Errorf("%q: %q, %d, %v", ahead+s+behind, out, line, e)
				}
			}
		}
	}
}

func TestLong(t *testing.T) {
	remark := "#" + strings.Repeat("x", 7998)
	for s, want := range map[string]api.Errno{
		remark:                                 api.OK,
		remark + "\n":                          api.OK,
		remark + "xx":                          api.ErrLong,
		remark + "\n\n":                        api.ErrLong,
		"go" + strings.Repeat("x", 7999):       api.ErrLong,
		strings.Repeat("\n", 300):              api.OK,
		strings.Repeat("\n", 301):              api.ErrLong,
		strings.Repeat("\n", 299) + "open":     api.OK,
		strings.Repeat("\n", 300) + "open":     api.ErrLong,
		strings.Repeat("#\n", 299) + "open\n":  api.OK,
		strings.Repeat("#\n", 300) + "#":       api.ErrLong,
		strings.Repeat("go\n", 300) + "\n":     api.ErrLong,
		strings.Repeat("open\n", 300):          api.OK,
		strings.Repeat("open\n", 300) + "open": api.ErrLong,
	} {
		out, line, e := script.Run(s)
		if e != want || line != 0 || e != api.OK && out != "" {
			t.Errorf("%d bytes, %d ends: %d, %v, not %v", len(s), strings.Count(s, "\n"), line, e, want)
		}
	}
	if out, line, e := script.Run(""); out != "" || line != 0 || e != api.OK {
		t.Errorf("an empty script: %q, %d, %v", out, line, e)
	}
	if got := run(t, "\n# a\nopen\n\n#b\nsteps"); got != "none\nnone\n" {
		t.Errorf("%q", got)
	}
}

// twin does by calls what a script's lines do.
type twin struct {
	d    *pmem.Dev
	s    *store.Store
	vars [16]api.Oid
}

func ok(more ...any) string {
	s := "ok"
	for _, m := range more {
		s += fmt.Sprint(" ", m)
	}
	return s + "\n"
}

// line does a line by chance; it tells the line, and what it must tell.
func (w *twin) line(r *rand.Rand) (string, string) {
	lane, v, at, many := r.Intn(3), r.Intn(4), r.Intn(4), r.Intn(5)
	kind := r.Intn(40)
	if w.d == nil || kind == 0 {
		words, lanes := []int{149, 200, 400, 100}[r.Intn(4)], 1+r.Intn(2)
		w.s = nil
		d, _ := pmem.New(words)
		w.d = d
		return fmt.Sprintf("pool %d %d", words, lanes), end(pool.Create(d, lanes))
	}
	switch kind {
	case 1:
		text := "-"
		var keep []uint8
		if n := r.Intn(9); n > 0 {
			text = ""
			for range n {
				keep = append(keep, uint8(r.Intn(3)))
				text += fmt.Sprint(keep[len(keep)-1])
			}
		}
		w.d.Crash(keep)
		w.s = nil
		return "crash " + text, ok()
	case 2:
		n := r.Intn(60)
		w.d.Fuse(n)
		return fmt.Sprint("fuse ", n), ok()
	case 3:
		n := r.Intn(200)
		w.d.Evict(n)
		return fmt.Sprint("evict ", n), ok()
	case 4:
		return "steps", ok(w.d.Steps())
	}
	if w.s == nil {
		p, e := pool.Open(w.d)
		if e == api.OK {
			w.s = store.New(p)
		}
		return "open", end(e)
	}
	return w.call(r, kind, lane, v, at, many)
}

func end(e api.Errno, more ...any) string {
	if e != api.OK {
		return fmt.Sprintf("error %d\n", int(e))
	}
	return ok(more...)
}

func (w *twin) keep(v int, o api.Oid, e api.Errno) string {
	if e == api.OK {
		w.vars[v] = o
	}
	return end(e, oid.Text(o))
}

func (w *twin) call(r *rand.Rand, kind, lane, v, at, many int) (string, string) {
	switch kind {
	case 5, 6, 7, 8:
		depth, e := w.s.Begin(lane)
		return fmt.Sprintf("begin %d", lane), end(e, depth)
	case 9, 10, 11:
		return fmt.Sprintf("add %d %d %d %d", lane, v, at, many), end(w.s.Add(lane, w.vars[v], api.Span{From: at, Many: many}))
	case 12, 13, 14:
		x := r.Uint64()
		return fmt.Sprintf("put %d %d %d %d", lane, v, at, x), end(w.s.Put(lane, w.vars[v], at, x))
	case 15, 16:
		x, e := w.s.Get(lane, w.vars[v], at)
		return fmt.Sprintf("get %d %d %d", lane, v, at), end(e, x)
	case 17, 18, 19, 20:
		o, e := w.s.Alloc(lane, at, many)
		return fmt.Sprintf("new %d %d %d %d", lane, v, at, many), w.keep(v, o, e)
	case 21:
		return fmt.Sprintf("drop %d %d", lane, v), end(w.s.Free(lane, w.vars[v]))
	case 22:
		return fmt.Sprintf("root %d %d", lane, v), end(w.s.SetRoot(lane, w.vars[v]))
	case 23:
		return fmt.Sprintf("none %d", lane), end(w.s.SetRoot(lane, api.Oid{}))
	case 24, 25:
		o, e := w.s.Root(lane)
		return fmt.Sprintf("which %d %d", lane, v), w.keep(v, o, e)
	case 26, 27, 28:
		_, e := w.s.Commit(lane)
		return fmt.Sprintf("commit %d", lane), end(e)
	case 29:
		return fmt.Sprintf("abort %d", lane), end(w.s.Abort(lane))
	case 30, 31:
		var l []any
		for _, o := range w.s.List(at) {
			l = append(l, oid.Text(o))
		}
		return fmt.Sprintf("list %d", at), ok(l...)
	}
	done, e := w.s.Step(lane)
	if done {
		return fmt.Sprintf("step %d", lane), end(e, "done")
	}
	return fmt.Sprintf("step %d", lane), end(e)
}

func TestAsTheCallsTell(t *testing.T) {
	r := rand.New(rand.NewSource(24))
	for range 300 {
		w := &twin{}
		lines, want := "", ""
		for range 250 {
			line, told := w.line(r)
			lines, want = lines+line+"\n", want+told
			if r.Intn(20) == 0 {
				lines += "# " + line + "\n"
			}
			if len(lines) > 7000 {
				break
			}
		}
		if got := run(t, lines); got != want {
			t.Fatalf("%s tells\n%s, not\n%s", lines, got, want)
		}
		// A beginning of it has a beginning of what is told.
		for i := range lines {
			if lines[i] == '\n' && r.Intn(30) == 0 {
				if got := run(t, lines[:i]); !strings.HasPrefix(want, got) {
					t.Fatalf("a beginning tells\n%s", got)
				}
			}
		}
	}
}

func TestNothingIsKept(t *testing.T) {
	s := "pool 149 1\nopen\nbegin 0\nnew 0 1 7 2\nsteps\nlist 0"
	if run(t, s) != run(t, s) || run(t, "open\nlist 0") != "none\nnone\n" {
		t.Error("one script knows of another one")
	}
}

// torn is a script in which a device dies behind so many steps of a transaction that changes two words, makes an object, names it, and frees another one.
func torn(fuse int, keep string) string {
	ahead := "pool 300 2\nopen\nbegin 0\nnew 0 1 7 2\nput 0 1 0 1\nput 0 1 1 2\nnew 0 2 7 40\nroot 0 1\ncommit 0\n" + strings.Repeat("step 0\n", 5)
	work := "begin 1\nadd 1 1 0 2\nput 1 1 0 7\nnew 1 3 9 3\nput 1 3 2 9\nput 1 1 1 8\nroot 1 3\ndrop 1 2\ncommit 1\n" + strings.Repeat("step 1\n", 5)
	return ahead + fmt.Sprintf("fuse %d\n", fuse) + work + "crash " + keep + "\nopen\nget 0 1 0\nget 0 1 1\nwhich 0 4\nlist 0\nopen\nlist 0\n"
}

func TestNothingIsTorn(t *testing.T) {
	const name = ".4294967297"
	before := []string{"ok", "ok 1", "ok 2", "ok 160.7" + name, "ok 160.7" + name + " 192.7.4294967298", "ok", "ok 160.7" + name + " 192.7.4294967298"}
	after := []string{"ok", "ok 7", "ok 8", "ok 256.9.4294967299", "ok 160.7" + name + " 256.9.4294967299", "ok", "ok 160.7" + name + " 256.9.4294967299"}
	for _, keep := range []string{"-", strings.Repeat("1", 60), strings.Repeat("2", 60), strings.Repeat("012", 20), strings.Repeat("201", 20), strings.Repeat("120", 20)} {
		last, died := before, true
		for fuse := 1; died; fuse++ {
			out := run(t, torn(fuse, keep))
			lines := strings.Split(strings.TrimSuffix(out, "\n"), "\n")
			tail := strings.Join(lines[len(lines)-7:], "\n")
			if tail == strings.Join(after, "\n") {
				last = after
			}
			// Once it is decided it stays so, however much later the device dies.
			if tail != strings.Join(last, "\n") {
				t.Fatalf("with a fuse of %d, and %s kept, there is\n%s", fuse, keep, out)
			}
			died = strings.Contains(out, "error 12")
		}
		if &last[0] != &after[0] {
			t.Fatal("it was never decided")
		}
	}
}
