package lock_test

import (
	"math"
	"math/rand"
	"slices"
	"testing"

	"lockfast/lock"
)

// has is a key with its owner.
type has struct{ key, lane int }

var (
	keys  = []int{math.MinInt, -1, 0, 1, 2, 5, 1 << 40, math.MaxInt}
	lanes = []int{math.MinInt, -1, 0, 1, 2, 63, math.MaxInt}
)

// owner is what the chapter tells of a key.
func owner(l []has, key int) (int, bool) {
	for _, x := range l {
		if x.key == key {
			return x.lane, true
		}
	}
	return -1, false
}

func held(l []has, lane int) []int {
	var out []int
	for _, key := range keys {
		if o, ok := owner(l, key); ok && o == lane {
			out = append(out, key)
		}
	}
	return out
}

func same(t *testing.T, tab *lock.Table, l []has) {
	t.Helper()
	for _, key := range keys {
		if want, _ := owner(l, key); tab.Owner(key) != want {
			t.Fatalf("the owner of %d is %d, not %d", key, tab.Owner(key), want)
		}
	}
	for _, lane := range lanes {
		got := tab.Held(lane)
		if !slices.Equal(got, held(l, lane)) {
			t.Fatalf("%d has %v, not %v", lane, got, held(l, lane))
		}
		if len(got) > 0 {
			got[0]++
		}
	}
}

func TestAsTheChapterTells(t *testing.T) {
	r := rand.New(rand.NewSource(18))
	for range 100 {
		tab, other := lock.New(), lock.New()
		var l []has
		for range 100 {
			lane := lanes[r.Intn(len(lanes))]
			if r.Intn(6) == 0 {
				if got := tab.Release(lane); got != len(held(l, lane)) {
					t.Fatalf("%d lets go %d", lane, got)
				}
				l = slices.DeleteFunc(l, func(x has) bool { return x.lane == lane })
			} else {
				key := keys[r.Intn(len(keys))]
				o, ok := owner(l, key)
				if got := tab.Lock(key, lane); got != (!ok || o == lane) {
					t.Fatalf("whether %d gets %d, which is %d's: %v", lane, key, o, got)
				}
				if !ok {
					l = append(l, has{key, lane})
				}
			}
			same(t, tab, l)
		}
		same(t, other, nil)
	}
}

func TestExample(t *testing.T) {
	tab := lock.New()
	if !tab.Lock(5, 1) || tab.Lock(5, 2) || !tab.Lock(5, 1) || tab.Release(1) != 1 || !tab.Lock(5, 2) || tab.Owner(5) != 2 || tab.Release(1) != 0 {
		t.Error("the chapter's example is wrong")
	}
}
