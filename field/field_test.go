package field_test

import (
	"math"
	"slices"
	"testing"

	"lockfast/field"
)

// words are ones whose bits lie in unlike ways.
var words = []uint64{0, 1, 2, 5, 0xb, 0xff00, 1 << 31, 1 << 32, 1 << 63, 1<<63 | 1, 0x5555555555555555, 0xaaaaaaaaaaaaaaaa, 0x123456789abcdef0, math.MaxUint64 - 1, math.MaxUint64, math.MaxUint64 >> 1}

// edges are numbers at which places and lengths of bits begin to be wrong, or are far off.
func edges() []int {
	l := []int{math.MinInt, math.MinInt + 1, -1 << 40, math.MaxInt, math.MaxInt - 1, math.MaxInt - 63, 1 << 62, 1 << 40}
	for i := -3; i <= 67; i++ {
		l = append(l, i)
	}
	return l
}

func bit(w uint64, i int) uint64 { return w >> uint(i) & 1 }

// fits is the promise's own words, in numbers small enough to be added up.
func fits(at, many int) bool {
	return at >= 0 && at <= 64 && many >= 1 && many <= 64 && at+many <= 64
}

func TestFits(t *testing.T) {
	for _, at := range edges() {
		for _, many := range edges() {
			if got := field.Fits(at, many); got != fits(at, many) {
				t.Errorf("Fits(%d, %d) is %v", at, many, got)
			}
		}
	}
}

func TestGet(t *testing.T) {
	for _, w := range words {
		for _, at := range edges() {
			for _, many := range edges() {
				want := uint64(0)
				if fits(at, many) {
					for i := 0; i < many; i++ {
						want |= bit(w, at+i) << uint(i)
					}
				}
				if got := field.Get(w, at, many); got != want {
					t.Fatalf("Get(%x, %d, %d) is %x, not %x", w, at, many, got, want)
				}
			}
		}
	}
	if got := field.Get(0xff00, 4, 8); got != 0xf0 {
		t.Errorf("the chapter's example: %x", got)
	}
}

func TestPut(t *testing.T) {
	for _, w := range words {
		for _, v := range words {
			for _, at := range edges() {
				for _, many := range edges() {
					checkPut(t, w, at, many, v)
				}
			}
		}
	}
}

func checkPut(t *testing.T, w uint64, at, many int, v uint64) {
	t.Helper()
	want := w
	if fits(at, many) {
		want = 0
		for i := 0; i < 64; i++ {
			if i >= at && i < at+many {
				want |= bit(v, i-at) << uint(i)
			} else {
				want |= bit(w, i) << uint(i)
			}
		}
	}
	got := field.Put(w, at, many, v)
	if got != want {
		t.Fatalf("Put(%x, %d, %d, %x) is %x, not %x", w, at, many, v, got, want)
	}
	if !fits(at, many) {
		return
	}
	low := v
	if many < 64 {
		low = v & (1<<uint(many) - 1)
	}
	if back := field.Get(got, at, many); back != low {
		t.Fatalf("what was put at %d, %d as %x is got as %x", at, many, low, back)
	}
}

func TestOnesFirstPlaces(t *testing.T) {
	for _, w := range words {
		for _, many := range edges() {
			held := min(max(many, 0), 64)
			one, zero := -1, -1
			var places []int
			for i := 0; i < held; i++ {
				switch {
				case bit(w, i) == 1:
					places = append(places, i)
					if one < 0 {
						one = i
					}
				case zero < 0:
					zero = i
				}
			}
			if got := field.Ones(w, many); got != len(places) {
				t.Errorf("Ones(%x, %d) is %d, not %d", w, many, got, len(places))
			}
			if got := field.First(w, many, true); got != one {
				t.Errorf("First(%x, %d, true) is %d, not %d", w, many, got, one)
			}
			if got := field.First(w, many, false); got != zero {
				t.Errorf("First(%x, %d, false) is %d, not %d", w, many, got, zero)
			}
			if got := field.Places(w, many); !slices.Equal(got, places) {
				t.Errorf("Places(%x, %d) are %v, not %v", w, many, got, places)
			}
		}
	}
	if got := field.First(7, 4, false); got != 3 {
		t.Errorf("the chapter's example: %d", got)
	}
}

func TestPlacesAreOnesOwn(t *testing.T) {
	first := field.Places(0xb, 64)
	first[0] = 99
	if again := field.Places(0xb, 64); !slices.Equal(again, []int{0, 1, 3}) {
		t.Errorf("a changed answer changes the next one: %v", again)
	}
}
