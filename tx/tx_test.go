package tx_test

import (
	"math/rand"
	"slices"
	"testing"

	"lockfast/api"
	"lockfast/tx"
)

// model is a transaction as the chapter tells it, word by word.
type model struct {
	depth  int
	spoilt bool
	noted  map[int]bool
	fresh  []api.Fresh
	gone   []int
	named  []int
}

func (m *model) isFresh(at int) bool {
	for _, f := range m.fresh {
		if at >= f.At && at < f.At+f.Header.Size+2 {
			return true
		}
	}
	return false
}

// spans are the places that will do, as a right list.
func spans(from, to int, will func(int) bool) []api.Span {
	var l []api.Span
	for at := from; at < to; at++ {
		if !will(at) {
			continue
		}
		if n := len(l); n > 0 && l[n-1].From+l[n-1].Many == at {
			l[n-1].Many++
		} else {
			l = append(l, api.Span{From: at, Many: 1})
		}
	}
	return l
}

func (m *model) missing(s api.Span) []api.Span {
	return spans(s.From, s.From+s.Many, func(at int) bool { return !m.noted[at] && !m.isFresh(at) })
}

func (m *model) made(at int) int {
	return slices.IndexFunc(m.fresh, func(f api.Fresh) bool { return f.At == at })
}

const width = 60

func same(t *testing.T, x *tx.Tx, m *model) {
	t.Helper()
	if x.Spoilt() != m.spoilt {
		t.Fatalf("spoilt %v", x.Spoilt())
	}
	if got, want := x.Noted(), spans(0, 2*width, func(at int) bool { return m.noted[at] }); !slices.Equal(got, want) {
		t.Fatalf("noted are %v, not %v", got, want)
	}
	all := slices.Clone(m.fresh)
	slices.SortFunc(all, func(a, b api.Fresh) int { return a.At - b.At })
	if got := x.All(); !slices.Equal(got, all) {
		t.Fatalf("all are %v, not %v", got, all)
	}
	if got := x.Gone(); !slices.Equal(got, m.gone) {
		t.Fatalf("gone are %v, not %v", got, m.gone)
	}
	root, named := x.Named()
	if named != (len(m.named) > 0) || !named && root != 0 || named && root != m.named[len(m.named)-1] {
		t.Fatalf("named is %d, %v, not the last one of %v", root, named, m.named)
	}
	for at := range width {
		f, ok := x.Made(at)
		if i := m.made(at); ok != (i >= 0) || ok && f != m.fresh[i] || !ok && f != (api.Fresh{}) {
			t.Fatalf("made at %d is %v, %v", at, f, ok)
		}
		if x.Freed(at) != slices.Contains(m.gone, at) {
			t.Fatalf("freed at %d: %v", at, x.Freed(at))
		}
	}
}

func act(t *testing.T, r *rand.Rand, x *tx.Tx, m *model) {
	t.Helper()
	at := r.Intn(width)
	s := api.Span{From: at, Many: r.Intn(12)}
	switch r.Intn(12) {
	case 0:
		m.depth++
		if got := x.Begin(); got != m.depth {
			t.Fatalf("depth %d, not %d", got, m.depth)
		}
	case 1:
		m.depth = max(m.depth-1, 0)
		if got := x.End(); got != m.depth {
			t.Fatalf("depth %d, not %d", got, m.depth)
		}
	case 2:
		if r.Intn(5) == 0 {
			x.Spoil()
			m.spoilt = true
		}
	case 3, 4, 5:
		want := m.missing(s)
		for _, l := range want {
			for i := range l.Many {
				m.noted[l.From+i] = true
			}
		}
		if got := x.Note(s); !slices.Equal(got, want) {
			t.Fatalf("new of %v are %v, not %v", s, got, want)
		}
	case 6:
		// What is made lies apart: at tens, with eight words at most.
		f := api.Fresh{At: at / 10 * 10, Header: api.Header{Type: 1 + r.Intn(5), Size: r.Intn(7), Serial: r.Uint64()}, Place: api.Place{Chunk: r.Intn(5)}}
		x.Make(f)
		if i := m.made(f.At); i >= 0 {
			m.fresh[i] = f
		} else {
			m.fresh = append(m.fresh, f)
		}
	case 7:
		at = at / 10 * 10
		f, ok := x.Unmake(at)
		i := m.made(at)
		if ok != (i >= 0) || ok && f != m.fresh[i] || !ok && f != (api.Fresh{}) {
			t.Fatalf("made at %d was %v, %v", at, f, ok)
		}
		if ok {
			m.fresh = slices.Delete(m.fresh, i, i+1)
		}
	case 8:
		want := !slices.Contains(m.gone, at)
		if got := x.Free(at); got != want {
			t.Fatalf("freed at %d for the first time: %v", at, got)
		}
		if want {
			m.gone = append(m.gone, at)
		}
	case 9:
		at -= r.Intn(2) * at
		x.Name(at)
		m.named = append(m.named, at)
	default:
		if got := x.May(s); got != (len(m.missing(s)) == 0) {
			t.Fatalf("whether %v may be stored to: %v", s, got)
		}
	}
}

func TestAsTheChapterTells(t *testing.T) {
	r := rand.New(rand.NewSource(20))
	for range 150 {
		x, other := tx.New(), tx.New()
		m := &model{noted: map[int]bool{}}
		same(t, x, m)
		for range 80 {
			act(t, r, x, m)
			same(t, x, m)
		}
		same(t, other, &model{})
	}
}

func TestExample(t *testing.T) {
	x := tx.New()
	if got := x.Note(api.Span{From: 10, Many: 10}); !slices.Equal(got, []api.Span{{From: 10, Many: 10}}) {
		t.Errorf("%v", got)
	}
	if got := x.Note(api.Span{From: 15, Many: 10}); !slices.Equal(got, []api.Span{{From: 20, Many: 5}}) {
		t.Errorf("%v", got)
	}
	if !x.May(api.Span{From: 12, Many: 12}) || x.May(api.Span{From: 12, Many: 14}) {
		t.Error("what may be stored to is wrong")
	}
	if got := x.Note(api.Span{From: 10, Many: 15}); len(got) != 0 {
		t.Errorf("noted again %v is new", got)
	}
}

func TestFreshWordsAreNotNoted(t *testing.T) {
	x := tx.New()
	x.Make(api.Fresh{At: 20, Header: api.Header{Type: 1, Size: 4, Serial: 1}})
	if got := x.Note(api.Span{From: 18, Many: 12}); !slices.Equal(got, []api.Span{{From: 18, Many: 2}, {From: 26, Many: 4}}) {
		t.Errorf("%v", got)
	}
	if got := x.Noted(); !slices.Equal(got, []api.Span{{From: 18, Many: 2}, {From: 26, Many: 4}}) {
		t.Errorf("noted are %v", got)
	}
	if !x.May(api.Span{From: 18, Many: 12}) {
		t.Error("fresh words may not be stored to")
	}
	x.Unmake(20)
	if x.May(api.Span{From: 20, Many: 1}) || !x.May(api.Span{From: 18, Many: 2}) {
		t.Error("what is made no more may be stored to")
	}
	if got := x.Note(api.Span{From: 18, Many: 12}); !slices.Equal(got, []api.Span{{From: 20, Many: 6}}) {
		t.Errorf("%v", got)
	}
}

func TestFarOff(t *testing.T) {
	x := tx.New()
	const far = 1 << 40
	if got := x.Note(api.Span{From: far, Many: far}); !slices.Equal(got, []api.Span{{From: far, Many: far}}) {
		t.Errorf("%v", got)
	}
	if !x.May(api.Span{From: far + 5, Many: far - 5}) || x.May(api.Span{From: far - 1, Many: 2}) || !x.May(api.Span{From: 3}) {
		t.Error("what may be stored to is wrong")
	}
	if x.End() != 0 || x.End() != 0 || x.Begin() != 1 {
		t.Error("a depth below 0")
	}
}

func TestMemoryOfItsOwn(t *testing.T) {
	x := tx.New()
	first := x.Note(api.Span{From: 5, Many: 5})
	x.Note(api.Span{From: 20, Many: 5})
	x.Free(7)
	x.Make(api.Fresh{At: 40, Header: api.Header{Type: 1, Size: 1, Serial: 1}})
	noted, gone, all := x.Noted(), x.Gone(), x.All()
	first[0].From, noted[0].From, gone[0], all[0].At = 99, 99, 99, 99
	if x.Noted()[0].From != 5 || x.Gone()[0] != 7 || x.All()[0].At != 40 || !x.May(api.Span{From: 5, Many: 5}) {
		t.Error("an answer shares memory with what is kept")
	}
}
