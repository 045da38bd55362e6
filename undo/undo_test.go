package undo_test

import (
	"encoding/binary"
	"hash/crc32"
	"math"
	"math/rand"
	"reflect"
	"slices"
	"testing"

	"lockfast/api"
	"lockfast/undo"
)

// sealed are words with their check sum, as the library tells it.
func sealed(l ...uint64) []uint64 {
	var b []byte
	for _, w := range l {
		b = binary.LittleEndian.AppendUint64(b, w)
	}
	return append(slices.Clone(l), uint64(crc32.ChecksumIEEE(b)))
}

func words(gen uint64, x api.Entry) []uint64 {
	first := uint64(x.At) + uint64(len(x.Old))<<20 + gen%65536<<48
	return sealed(append([]uint64{first}, x.Old...)...)
}

func entry(r *rand.Rand, many int) api.Entry {
	x := api.Entry{At: r.Intn(65536)}
	for range many {
		x.Old = append(x.Old, r.Uint64())
	}
	return x
}

var gens = []uint64{0, 3, 65535, 65536, 65539, 1<<48 - 1, math.MaxUint64}

func TestOneEntry(t *testing.T) {
	r := rand.New(rand.NewSource(13))
	for _, at := range []int{math.MinInt, -1 << 40, -1, 0, 1, 5, 65535, 65536, 1 << 20, 1 << 40, math.MaxInt} {
		for _, many := range []int{0, 1, 2, 7, 4095, 4096, 4097, 65536} {
			x := entry(r, many)
			x.At = at
			right := at >= 0 && at < 65536 && many >= 1 && many <= 4096
			if got := undo.Right(x); got != right {
				t.Errorf("whether one at %d, of %d, is right: %v", at, many, got)
			}
			size := 0
			if right {
				size = many + 2
			}
			if got := undo.Size(x); got != size {
				t.Errorf("one at %d, of %d, has %d words", at, many, got)
			}
			for _, gen := range gens {
				w, e := undo.Encode(gen, x)
				if !right {
					if e != api.ErrArg || len(w) != 0 {
						t.Errorf("the words of one at %d, of %d, are %d, %v", at, many, len(w), e)
					}
				} else if e != api.OK || !slices.Equal(w, words(gen, x)) {
					t.Errorf("the words of one at %d, of %d, are wrong", at, many)
				}
			}
		}
	}
	if undo.MaxMany != 4096 {
		t.Error(undo.MaxMany)
	}
}

func TestExample(t *testing.T) {
	w, e := undo.Encode(3, api.Entry{At: 5, Old: []uint64{7, 8}})
	if want := sealed(0x3000000200005, 7, 8); e != api.OK || !slices.Equal(w, want) {
		t.Errorf("%x, %v", w, e)
	}
}

func some(r *rand.Rand) []api.Entry {
	var l []api.Entry
	for range r.Intn(5) {
		l = append(l, entry(r, 1+r.Intn(6)))
	}
	return l
}

func all(gen uint64, l []api.Entry) []uint64 {
	var w []uint64
	for _, x := range l {
		w = append(w, words(gen, x)...)
	}
	return w
}

func same(a, b []api.Entry) bool { return len(a) == 0 && len(b) == 0 || reflect.DeepEqual(a, b) }

func none(t *testing.T, gen uint64, w []uint64) {
	t.Helper()
	if l, ok := undo.Decode(gen, w); ok || len(l) != 0 {
		t.Errorf("%x, of %x, are decoded as %v", w, gen, l)
	}
}

func TestDecode(t *testing.T) {
	r := rand.New(rand.NewSource(14))
	for range 300 {
		l := some(r)
		for _, gen := range gens {
			w := all(gen, l)
			kept := slices.Clone(w)
			for _, like := range []uint64{gen, gen ^ 1<<16, gen ^ 1<<63} {
				got, ok := undo.Decode(like, w)
				if !ok || !same(got, l) {
					t.Fatalf("%v are decoded as %v, %v", l, got, ok)
				}
			}
			for b := range 16 {
				if len(w) > 0 {
					none(t, gen^1<<uint(b), w)
				}
			}
			if got, _ := undo.Decode(gen, w); len(got) > 0 {
				got[0].Old[0]++
				if again, _ := undo.Decode(gen, w); !slices.Equal(w, kept) || !same(again, l) {
					t.Fatal("an answer shares memory")
				}
			}
		}
	}
	if l, ok := undo.Decode(3, nil); !ok || len(l) != 0 {
		t.Errorf("no words are decoded as %v, %v", l, ok)
	}
	long := []api.Entry{entry(r, 4096), entry(r, 1)}
	if got, ok := undo.Decode(9, all(9, long)); !ok || !same(got, long) {
		t.Error("long entries aren't decoded")
	}
}

func TestDecodeWrong(t *testing.T) {
	r := rand.New(rand.NewSource(15))
	for range 60 {
		l := some(r)
		w := all(7, l)
		ends, n := map[int]bool{0: true}, 0
		for _, x := range l {
			n += len(x.Old) + 2
			ends[n] = true
		}
		for i := range w {
			if !ends[i] {
				none(t, 7, w[:i])
			}
			for range 4 {
				x := slices.Clone(w)
				x[i] ^= 1 << uint(r.Intn(64))
				none(t, 7, x)
			}
		}
		for _, more := range [][]uint64{{0}, {1}, {0, 0}, {0, 0, 0}, {7 << 48, 0}, {math.MaxUint64}} {
			none(t, 7, append(slices.Clone(w), more...))
			none(t, 7, append(slices.Clone(more), w...))
		}
	}
}

func TestDecodeSealedButWrong(t *testing.T) {
	for _, first := range []uint64{5, 65536 | 1<<20, 1<<20 - 1 | 1<<20, 5 | 1<<20 | 1<<36, 5 | 1<<20 | 1<<47, 5 | 2<<20, 5 | 1<<20 | 1<<48} {
		none(t, 0, sealed(first, 7))
	}
	none(t, 0, sealed(5))
	big := make([]uint64, 4098)
	big[0] = 5 | 4097<<20
	none(t, 0, sealed(big...))
	if l, ok := undo.Decode(0, sealed(65535|1<<20, 7)); !ok || !same(l, []api.Entry{{At: 65535, Old: []uint64{7}}}) {
		t.Errorf("%v, %v", l, ok)
	}
}

func TestWithin(t *testing.T) {
	at := func(at, many int) api.Entry { return api.Entry{At: at, Old: make([]uint64, many)} }
	for _, x := range []struct {
		l     []api.Entry
		words int
		want  bool
	}{
		{nil, 0, true}, {nil, math.MinInt, true},
		{[]api.Entry{at(0, 1)}, 1, true}, {[]api.Entry{at(0, 1)}, 0, false}, {[]api.Entry{at(0, 1)}, -1, false}, {[]api.Entry{at(0, 1)}, math.MinInt, false},
		{[]api.Entry{at(5, 3)}, 8, true}, {[]api.Entry{at(5, 3)}, 7, false}, {[]api.Entry{at(-1, 3)}, 8, false}, {[]api.Entry{at(-1, 0)}, 8, false},
		{[]api.Entry{at(8, 0)}, 8, true}, {[]api.Entry{at(9, 0)}, 8, false},
		{[]api.Entry{at(0, 3), at(6, 2)}, 8, true}, {[]api.Entry{at(0, 3), at(6, 3)}, 8, false}, {[]api.Entry{at(6, 3), at(0, 3)}, 8, false},
		{[]api.Entry{at(math.MaxInt, 3)}, 8, false}, {[]api.Entry{at(math.MaxInt, 3)}, math.MaxInt, false}, {[]api.Entry{at(math.MaxInt-3, 3)}, math.MaxInt, true}, {[]api.Entry{at(math.MinInt, 3)}, math.MaxInt, false},
	} {
		if got := undo.Within(x.l, x.words); got != x.want {
			t.Errorf("whether %v are within %d: %v", x.l, x.words, got)
		}
	}
}

func TestBack(t *testing.T) {
	r := rand.New(rand.NewSource(16))
	for range 2000 {
		image := make([]uint64, r.Intn(8))
		for i := range image {
			image[i] = r.Uint64()
		}
		var l []api.Entry
		for range r.Intn(5) {
			x := entry(r, r.Intn(6))
			x.At = r.Intn(14) - 4
			l = append(l, x)
		}
		want, kept := slices.Clone(image), slices.Clone(image)
		for at := range want {
			for i := len(l) - 1; i >= 0; i-- {
				if n := at - l[i].At; n >= 0 && n < len(l[i].Old) {
					want[at] = l[i].Old[n]
				}
			}
		}
		got := undo.Back(image, l)
		if !slices.Equal(got, want) {
			t.Fatalf("%x, back by %v, is %x, not %x", image, l, got, want)
		}
		if twice := undo.Back(got, l); !slices.Equal(twice, want) {
			t.Fatalf("%x, back twice by %v, is %x", image, l, twice)
		}
		if len(got) > 0 {
			got[0]++
		}
		if !slices.Equal(image, kept) {
			t.Fatal("what was handed in is changed")
		}
	}
	far := []api.Entry{{At: math.MaxInt, Old: []uint64{1, 2}}, {At: math.MinInt, Old: []uint64{1, 2}}, {At: -1, Old: []uint64{1, 2}}}
	if got := undo.Back([]uint64{5, 6}, far); !slices.Equal(got, []uint64{2, 6}) {
		t.Errorf("back by entries that are far off: %v", got)
	}
}
