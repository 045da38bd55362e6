package redo_test

import (
	"encoding/binary"
	"hash/crc32"
	"math"
	"math/rand"
	"slices"
	"testing"

	"lockfast/api"
	"lockfast/redo"
)

// sealed are words with their check sum, as the library tells it.
func sealed(l ...uint64) []uint64 {
	var b []byte
	for _, w := range l {
		b = binary.LittleEndian.AppendUint64(b, w)
	}
	return append(slices.Clone(l), uint64(crc32.ChecksumIEEE(b)))
}

func words(l []api.Op) []uint64 {
	var w []uint64
	for _, o := range l {
		w = append(w, uint64(o.Kind)+uint64(o.At)*4, o.Value)
	}
	return sealed(w...)
}

func ops(r *rand.Rand, n int) []api.Op {
	var l []api.Op
	for range n {
		l = append(l, api.Op{Kind: r.Intn(3), At: r.Intn(65536), Value: r.Uint64()})
	}
	return l
}

// wrong are operations that can't be.
var wrong = []api.Op{{Kind: -1}, {Kind: 3}, {Kind: 4}, {Kind: 1 << 32}, {At: -1}, {At: 65536}, {At: 1 << 20}, {At: 1 << 40}, {At: math.MinInt}, {Kind: math.MinInt}, {Kind: math.MaxInt, At: math.MaxInt}}

func TestEncodeAndDecode(t *testing.T) {
	r := rand.New(rand.NewSource(12))
	for n := range 20 {
		for range 10 {
			l := ops(r, n)
			if n > 1 {
				l[0].At, l[n-1].At = 0, 65535
			}
			kept := slices.Clone(l)
			if !redo.Right(l) {
				t.Fatalf("%v isn't right", l)
			}
			w, e := redo.Encode(l)
			if e != api.OK || !slices.Equal(w, words(l)) {
				t.Fatalf("the words of %v are %x, %v", l, w, e)
			}
			for _, more := range [][]uint64{nil, {0}, {1, 2, 3}} {
				if back, ok := redo.Decode(append(slices.Clone(w), more...), n); !ok || !slices.Equal(back, l) {
					t.Fatalf("%v is decoded as %v, %v", l, back, ok)
				}
			}
			if !slices.Equal(l, kept) {
				t.Fatal("what was handed in is changed")
			}
		}
	}
	if redo.MaxOps != 19 {
		t.Error(redo.MaxOps)
	}
}

func TestWrongOperations(t *testing.T) {
	r := rand.New(rand.NewSource(13))
	for _, o := range wrong {
		for _, n := range []int{0, 1, 18} {
			for at := range n + 1 {
				l := slices.Insert(ops(r, n), at, o)
				if redo.Right(l) {
					t.Errorf("%v is right", l)
				}
				if w, e := redo.Encode(l); e != api.ErrArg || len(w) != 0 {
					t.Errorf("the words of %v are %x, %v", l, w, e)
				}
			}
		}
		l := append(ops(r, 19), o)
		if w, e := redo.Encode(l); e != api.ErrLogFull || len(w) != 0 {
			t.Errorf("the words of 20 are %x, %v", w, e)
		}
	}
	for _, n := range []int{20, 21, 100} {
		l := ops(r, n)
		if redo.Right(l) {
			t.Errorf("%d are right", n)
		}
		if w, e := redo.Encode(l); e != api.ErrLogFull || len(w) != 0 {
			t.Errorf("the words of %d are %x, %v", n, w, e)
		}
	}
}

func none(t *testing.T, w []uint64, many int) {
	t.Helper()
	if l, ok := redo.Decode(w, many); ok || len(l) != 0 {
		t.Errorf("%x, %d are decoded as %v", w, many, l)
	}
}

func TestDecodeWrong(t *testing.T) {
	r := rand.New(rand.NewSource(14))
	for n := range 20 {
		w, _ := redo.Encode(ops(r, n))
		for i := range w {
			none(t, w[:i], n)
			for _, b := range []uint{0, 1, 2, 21, 22, 31, 32, 63} {
				x := slices.Clone(w)
				x[i] ^= 1 << b
				none(t, x, n)
			}
		}
		for _, many := range []int{math.MinInt, -1, n - 1, n + 1, 20, 21, 1 << 40, math.MaxInt} {
			none(t, append(slices.Clone(w), make([]uint64, 50)...), many)
		}
	}
	none(t, words(ops(r, 20)), 20)
	none(t, nil, 0)
	none(t, []uint64{1}, 0)
	if l, ok := redo.Decode([]uint64{0}, 0); !ok || len(l) != 0 {
		t.Errorf("none are decoded as %v, %v", l, ok)
	}
}

func TestDecodeSealedButWrong(t *testing.T) {
	for _, first := range []uint64{3, 1 << 22, 1 << 40, 1 << 63, 65536 * 4, (1<<20 - 1) * 4, 3 + 5*4} {
		none(t, sealed(first, 7), 1)
		none(t, sealed(4, 7, first, 7), 2)
		none(t, sealed(first, 7, 4, 7), 2)
	}
	if l, ok := redo.Decode(sealed(65535*4+2, 7), 1); !ok || l[0] != (api.Op{Kind: api.And, At: 65535, Value: 7}) {
		t.Errorf("%v, %v", l, ok)
	}
}

func TestDo(t *testing.T) {
	r := rand.New(rand.NewSource(15))
	for range 1000 {
		w, v, at := r.Uint64(), r.Uint64(), r.Intn(10)-5
		for kind, want := range map[int]uint64{api.Set: v, api.Or: w | v, api.And: w & v, 3: w, 4: w, -1: w, math.MinInt: w, math.MaxInt: w} {
			if got := redo.Do(w, api.Op{Kind: kind, At: at, Value: v}); got != want {
				t.Fatalf("%d of %x with %x is %x", kind, w, v, got)
			}
		}
	}
	if got := redo.Do(1, api.Op{Kind: api.Or, At: 3, Value: 4}); got != 5 {
		t.Errorf("the chapter's example: %d", got)
	}
}

func TestWithin(t *testing.T) {
	for _, x := range []struct {
		at    []int
		words int
		want  bool
	}{
		{nil, 0, true}, {nil, -5, true}, {nil, math.MinInt, true},
		{[]int{0}, 1, true}, {[]int{0}, 0, false}, {[]int{-1}, 1, false}, {[]int{5}, 6, true}, {[]int{5}, 5, false}, {[]int{5}, -5, false},
		{[]int{0, 5, 2}, 6, true}, {[]int{0, 5, 2}, 5, false}, {[]int{2, 2, -1}, 5, false}, {[]int{-1, 2}, 5, false},
		{[]int{math.MaxInt}, math.MaxInt, false}, {[]int{math.MinInt}, math.MaxInt, false}, {[]int{70000}, 70001, true},
	} {
		var l []api.Op
		for _, at := range x.at {
			l = append(l, api.Op{At: at})
		}
		if got := redo.Within(l, x.words); got != x.want {
			t.Errorf("whether %v are within %d: %v", x.at, x.words, got)
		}
	}
}

func TestApply(t *testing.T) {
	r := rand.New(rand.NewSource(16))
	for range 1000 {
		image := make([]uint64, r.Intn(5))
		for i := range image {
			image[i] = r.Uint64()
		}
		var l []api.Op
		for range r.Intn(8) {
			l = append(l, api.Op{Kind: r.Intn(5) - 1, At: r.Intn(8) - 2, Value: r.Uint64()})
		}
		want, kept := slices.Clone(image), slices.Clone(image)
		for _, o := range l {
			if o.At < 0 || o.At >= len(want) {
				continue
			}
			switch o.Kind {
			case api.Set:
				want[o.At] = o.Value
			case api.Or:
				want[o.At] |= o.Value
			case api.And:
				want[o.At] &= o.Value
			}
		}
		got := redo.Apply(image, l)
		if !slices.Equal(got, want) {
			t.Fatalf("%x with %v is %x", image, l, got)
		}
		if len(got) > 0 {
			got[0]++
		}
		if !slices.Equal(image, kept) {
			t.Fatal("what was handed in is changed")
		}
		for i := range len(l) + 1 {
			if twice := redo.Apply(redo.Apply(image, l[:i]), l); !slices.Equal(twice, want) {
				t.Fatalf("%v, done in part, and whole, is %x, not %x", l, twice, want)
			}
		}
		if twice := redo.Apply(want, l); !slices.Equal(twice, want) {
			t.Fatalf("%v, done twice, is %x, not %x", l, twice, want)
		}
	}
}
