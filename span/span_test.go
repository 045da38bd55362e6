package span_test

import (
	"math/rand"
	"slices"
	"testing"

	"lockfast/api"
	"lockfast/span"
)

// width is how many places the sets of these tests may have, from base on.
const width = 8

// list is the right list of the words that the bits of set tell.
func list(set, base int) []api.Span {
	var l []api.Span
	for i := 0; i < 2*width; i++ {
		if set>>i&1 == 0 {
			continue
		}
		if i > 0 && set>>(i-1)&1 == 1 {
			l[len(l)-1].Many++
		} else {
			l = append(l, api.Span{From: base + i, Many: 1})
		}
	}
	return l
}

// row is a list of spans, each told by its two numbers.
func row(numbers ...int) []api.Span {
	var l []api.Span
	for i := 0; i+1 < len(numbers); i += 2 {
		l = append(l, api.Span{From: numbers[i], Many: numbers[i+1]})
	}
	return l
}

// bits are a span's words; it may begin below base.
func bits(s api.Span, base int) int {
	set := 0
	for i := 0; i < s.Many; i++ {
		set |= 1 << (s.From - base + i)
	}
	return set
}

func spans(base int) []api.Span {
	var l []api.Span
	for from := 0; from < width; from++ {
		for many := -2; from+many <= width+2; many++ {
			l = append(l, api.Span{From: base + from, Many: many})
		}
	}
	return append(l, api.Span{From: base, Many: -1 << 40})
}

func ones(set int) int {
	n := 0
	for ; set > 0; set &= set - 1 {
		n++
	}
	return n
}

func TestAllSetsOfAFewWords(t *testing.T) {
	for _, base := range []int{-4, 0, -1 << 40, 1<<40 - 100} {
		for set := range 1 << width {
			l := list(set, base)
			kept := slices.Clone(l)
			if !span.Right(l) {
				t.Fatalf("%v isn't right", l)
			}
			if got := span.Total(l); got != ones(set) {
				t.Fatalf("%v has %d words, not %d", l, got, ones(set))
			}
			for _, s := range spans(base) {
				b := bits(s, base)
				if got := span.Add(l, s); !slices.Equal(got, list(set|b, base)) {
					t.Fatalf("%v and %v are %v", l, s, got)
				}
				missing := span.Missing(l, s)
				if !slices.Equal(missing, list(b&^set, base)) {
					t.Fatalf("what of %v isn't in %v is %v", s, l, missing)
				}
				if got := span.Covers(l, s); got != (b&^set == 0) {
					t.Fatalf("whether %v covers %v: %v", l, s, got)
				}
				if !slices.Equal(l, kept) {
					t.Fatalf("%v was changed to %v", kept, l)
				}
			}
		}
	}
}

func TestRight(t *testing.T) {
	for _, x := range []struct {
		l    []api.Span
		want bool
	}{
		{nil, true},
		{[]api.Span{}, true},
		{row(5, 1), true},
		{row(-5, 1), true},
		{row(5, 0), false},
		{row(5, -1), false},
		{row(0, 2, 3, 1), true},
		{row(0, 2, 2, 1), false},
		{row(0, 2, 1, 1), false},
		{row(0, 2, 0, 2), false},
		{row(4, 2, 0, 1), false},
		{row(0, 2, 3, 0), false},
		{row(0, 0, 3, 2), false},
		{row(0, 2, 3, 1, 4, 1), false},
		{row(0, 2, 3, 1, 5, 1), true},
		{row(-1<<40, 1<<40, 1, 1<<40), true},
		{row(-1<<40, 1<<40, 0, 1<<40), false},
	} {
		if got := span.Right(x.l); got != x.want {
			t.Errorf("whether %v is right: %v", x.l, got)
		}
	}
}

func TestExample(t *testing.T) {
	l := span.Add(span.Add(span.Add(nil, api.Span{From: 2, Many: 3}), api.Span{From: 8, Many: 2}), api.Span{From: 5, Many: 3})
	if !slices.Equal(l, []api.Span{{From: 2, Many: 8}}) {
		t.Fatalf("%v", l)
	}
	if got := span.Missing(l, api.Span{From: 0, Many: 12}); !slices.Equal(got, []api.Span{{From: 0, Many: 2}, {From: 10, Many: 2}}) {
		t.Errorf("%v", got)
	}
}

func TestOrderPlaysNoPart(t *testing.T) {
	r := rand.New(rand.NewSource(4))
	for range 300 {
		var all []api.Span
		for range r.Intn(8) {
			all = append(all, api.Span{From: r.Intn(40) - 20, Many: r.Intn(9) - 1})
		}
		var first []api.Span
		for i := range 6 {
			var l []api.Span
			for _, s := range all {
				l = span.Add(l, s)
			}
			for _, s := range all {
				if !span.Covers(l, s) || len(span.Missing(l, s)) != 0 {
					t.Fatalf("%v doesn't cover %v", l, s)
				}
			}
			if i == 0 {
				first = l
			}
			if !span.Right(l) || !slices.Equal(l, first) {
				t.Fatalf("%v, added in another order, are %v, not %v", all, l, first)
			}
			r.Shuffle(len(all), func(a, b int) { all[a], all[b] = all[b], all[a] })
		}
	}
}

func TestWhatIsMissingAddedCovers(t *testing.T) {
	for set := range 1 << width {
		for _, s := range spans(0) {
			l := list(set, 0)
			for _, x := range span.Missing(l, s) {
				l = span.Add(l, x)
			}
			if !slices.Equal(l, span.Add(list(set, 0), s)) || !span.Covers(l, s) {
				t.Fatalf("%v, with what of %v is missing, is %v", list(set, 0), s, l)
			}
		}
	}
}

func TestMemoryOfItsOwn(t *testing.T) {
	l := append(make([]api.Span, 0, 8), api.Span{From: 0, Many: 1}, api.Span{From: 9, Many: 1})
	for _, s := range row(0, 0, 4, 1, 20, 1) {
		a := span.Add(l, s)
		a[0].From = 77
		if l[0].From != 0 || l[:3][2] != (api.Span{}) {
			t.Fatalf("an answer shares memory with what was handed in: %v", l[:3])
		}
	}
}

func TestListsThatAreNotRight(t *testing.T) {
	l := row(5, 3, 4, -2, 0, 1<<40, 1<<62, 1<<62, -1<<63, -1)
	for _, s := range l {
		span.Add(l, s)
		span.Missing(l, s)
		span.Covers(l, s)
	}
	span.Right(l)
	span.Total(l)
}
