package mark_test

import (
	"math"
	"testing"

	"lockfast/api"
	"lockfast/mark"
)

var gens = []uint64{0, 1, 3, 1 << 16, 1 << 47, 1<<48 - 2, 1<<48 - 1, 1 << 48, 1<<48 + 1, 1 << 63, math.MaxUint64}

func marks() []api.Mark {
	var l []api.Mark
	for _, stage := range []int{math.MinInt, -1 << 32, -4, -1, 0, 1, 2, 3, 4, 5, 1 << 32, 1<<32 + 1, math.MaxInt} {
		for _, count := range []int{math.MinInt, -1 << 14, -1, 0, 1, 2, 5, 1 << 13, 1<<14 - 1, 1 << 14, 1<<14 + 1, 1 << 48, math.MaxInt} {
			for _, gen := range gens {
				l = append(l, api.Mark{Stage: stage, Count: count, Gen: gen})
			}
		}
	}
	return l
}

// right is the promise's own words.
func right(m api.Mark) bool {
	if m.Gen > 1<<48-1 {
		return false
	}
	switch m.Stage {
	case api.Idle:
		return m.Count == 0
	case api.Active, api.Redoing:
		return m.Count >= 0 && m.Count <= 16383
	}
	return false
}

func TestRightAndEncode(t *testing.T) {
	for _, m := range marks() {
		if got := mark.Right(m); got != right(m) {
			t.Errorf("whether %v is right: %v", m, got)
		}
		w, e := mark.Encode(m)
		if !right(m) {
			if w != 0 || e != api.ErrArg {
				t.Errorf("the word of %v is %x, %v", m, w, e)
			}
			continue
		}
		want := uint64(m.Stage) + uint64(m.Count)*4 + m.Gen*65536
		if w != want || e != api.OK {
			t.Errorf("the word of %v is %x, %v, not %x", m, w, e, want)
		}
		if back, ok := mark.Decode(w); back != m || !ok {
			t.Errorf("%v is decoded as %v, %v", m, back, ok)
		}
	}
}

func TestExample(t *testing.T) {
	if w, e := mark.Encode(api.Mark{Stage: api.Active, Count: 5, Gen: 3}); w != 0x30015 || e != api.OK {
		t.Errorf("%x, %v", w, e)
	}
	if mark.MaxCount != 16383 || mark.MaxGen != 0xffffffffffff {
		t.Error("the limits are wrong")
	}
}

func TestDecode(t *testing.T) {
	for low := range uint64(1 << 16) {
		for _, gen := range []uint64{0, 7, 1<<48 - 1} {
			w := low | gen<<16
			want := api.Mark{Stage: int(low % 4), Count: int(low / 4), Gen: gen}
			m, ok := mark.Decode(w)
			if !right(want) {
				if ok || m != (api.Mark{}) {
					t.Fatalf("%x is decoded as %v, %v", w, m, ok)
				}
				continue
			}
			if !ok || m != want {
				t.Fatalf("%x is decoded as %v, %v", w, m, ok)
			}
			if back, e := mark.Encode(m); back != w || e != api.OK {
				t.Fatalf("%x, decoded, is encoded as %x", w, back)
			}
		}
	}
}

func TestBeginAndEnd(t *testing.T) {
	for _, m := range marks() {
		if !right(m) {
			mark.Begin(m)
			mark.End(m)
			continue
		}
		next := m.Gen + 1
		if m.Gen == 1<<48-1 {
			next = 0
		}
		if got := mark.Begin(m); got != (api.Mark{Stage: api.Active, Gen: next}) {
			t.Errorf("%v begins as %v", m, got)
		}
		if got := mark.End(m); got != (api.Mark{Stage: api.Idle, Gen: m.Gen}) {
			t.Errorf("%v ends as %v", m, got)
		}
	}
}
