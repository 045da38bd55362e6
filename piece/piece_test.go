package piece_test

import (
	"math"
	"math/rand"
	"slices"
	"testing"

	"lockfast/api"
	"lockfast/piece"
)

func some(r *rand.Rand) []api.Span {
	var l []api.Span
	for range r.Intn(5) {
		l = append(l, api.Span{From: r.Intn(14), Many: r.Intn(5)})
	}
	return l
}

// places are those of all words, one behind the other.
func places(l []api.Span) []int {
	var out []int
	for _, x := range l {
		for i := range x.Many {
			out = append(out, x.From+i)
		}
	}
	return out
}

// cut is the promise's own words: of each piece that has one of them just those.
func cut(l []api.Span, s api.Span) []api.Span {
	if s.Many < 1 || s.From < 0 || s.From+s.Many > len(places(l)) {
		return nil
	}
	var out []api.Span
	n := 0
	for _, x := range l {
		var c api.Span
		for i := range x.Many {
			if n >= s.From && n < s.From+s.Many {
				if c.Many == 0 {
					c.From = x.From + i
				}
				c.Many++
			}
			n++
		}
		if c.Many > 0 {
			out = append(out, c)
		}
	}
	return out
}

func TestTotalAtAndCut(t *testing.T) {
	r := rand.New(rand.NewSource(14))
	for range 500 {
		l := some(r)
		kept := slices.Clone(l)
		all := places(l)
		if got := piece.Total(l); got != len(all) {
			t.Fatalf("%v have %d words", l, got)
		}
		for i := -2; i < len(all)+3; i++ {
			want := -1
			if i >= 0 && i < len(all) {
				want = all[i]
			}
			if got := piece.At(l, i); got != want {
				t.Fatalf("the word %d of %v is at %d, not %d", i, l, got, want)
			}
			for many := -2; many < len(all)+3; many++ {
				s := api.Span{From: i, Many: many}
				got := piece.Cut(l, s)
				if !slices.Equal(got, cut(l, s)) {
					t.Fatalf("%v of %v is %v, not %v", s, l, got, cut(l, s))
				}
				if len(got) > 0 && piece.Total(got) != many {
					t.Fatalf("%v of %v has %d words", s, l, piece.Total(got))
				}
			}
		}
		if !slices.Equal(l, kept) {
			t.Fatal("what was handed in is changed")
		}
	}
}

func TestFarOff(t *testing.T) {
	const far = 1 << 40
	l := []api.Span{{From: far, Many: far}, {From: 3, Many: 0}, {From: 7, Many: far}}
	if got := piece.Total(l); got != 2*far {
		t.Errorf("%d words", got)
	}
	for i, want := range map[int]int{0: far, far - 1: 2*far - 1, far: 7, 2*far - 1: far + 6, 2 * far: -1, -1: -1, math.MinInt: -1, math.MaxInt: -1} {
		if got := piece.At(l, i); got != want {
			t.Errorf("the word %d is at %d, not %d", i, got, want)
		}
	}
	if got := piece.Cut(l, api.Span{From: far - 2, Many: far}); !slices.Equal(got, []api.Span{{From: 2*far - 2, Many: 2}, {From: 7, Many: far - 2}}) {
		t.Errorf("cut: %v", got)
	}
	if got := piece.Cut(l, api.Span{From: far, Many: far + 1}); len(got) != 0 {
		t.Errorf("cut of what there isn't: %v", got)
	}
	image := []uint64{1, 2}
	if got := piece.Scatter(image, []api.Span{{From: 1, Many: far}}, []uint64{8, 9}); !slices.Equal(got, []uint64{1, 8}) {
		t.Errorf("scattered: %v", got)
	}
	if got := piece.Gather(image, []api.Span{{From: far, Many: 2}, {From: 1, Many: 2}}); !slices.Equal(got, []uint64{0, 0, 2, 0}) {
		t.Errorf("gathered: %v", got)
	}
}

func TestGatherAndScatter(t *testing.T) {
	r := rand.New(rand.NewSource(15))
	for range 3000 {
		image := make([]uint64, r.Intn(16))
		for i := range image {
			image[i] = r.Uint64()
		}
		l := some(r)
		words := make([]uint64, r.Intn(16))
		for i := range words {
			words[i] = r.Uint64()
		}
		keptImage, keptWords := slices.Clone(image), slices.Clone(words)
		checkGather(t, image, l)
		checkScatter(t, image, l, words)
		if !slices.Equal(image, keptImage) || !slices.Equal(words, keptWords) {
			t.Fatal("what was handed in is changed")
		}
	}
}

func checkGather(t *testing.T, image []uint64, l []api.Span) {
	t.Helper()
	var want []uint64
	for _, at := range places(l) {
		if at < len(image) {
			want = append(want, image[at])
		} else {
			want = append(want, 0)
		}
	}
	got := piece.Gather(image, l)
	if !slices.Equal(got, want) {
		t.Fatalf("gathered from %x by %v: %x", image, l, got)
	}
	if len(got) > 0 {
		got[0]++
	}
}

func checkScatter(t *testing.T, image []uint64, l []api.Span, words []uint64) {
	t.Helper()
	want := slices.Clone(image)
	twice := false
	seen := map[int]int{}
	for i, at := range places(l) {
		if i < len(words) && at < len(want) {
			want[at] = words[i]
		}
		seen[at]++
		twice = twice || seen[at] > 1 || at >= len(want)
	}
	got := piece.Scatter(image, l, words)
	if !slices.Equal(got, want) {
		t.Fatalf("%x, with %x in %v, is %x, not %x", image, words, l, got, want)
	}
	if back := piece.Gather(got, l); !twice && len(words) >= len(back) && !slices.Equal(back, words[:len(back)]) {
		t.Fatalf("%x, scattered in %v, is gathered as %x", words, l, back)
	}
	if len(got) > 0 {
		got[0]++
	}
}

func TestExample(t *testing.T) {
	l := []api.Span{{From: 10, Many: 3}, {From: 50, Many: 10}}
	if got := piece.At(l, 3); got != 50 {
		t.Errorf("%d", got)
	}
	if got := piece.Cut(l, api.Span{From: 2, Many: 3}); !slices.Equal(got, []api.Span{{From: 12, Many: 1}, {From: 50, Many: 2}}) {
		t.Errorf("%v", got)
	}
}
