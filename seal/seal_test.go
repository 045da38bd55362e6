package seal_test

import (
	"encoding/binary"
	"hash/crc32"
	"slices"
	"testing"

	"lockfast/seal"
)

// next is a word that hangs on the one ahead of it, and looks as if it didn't.
func next(w uint64) uint64 {
	w ^= w << 13
	w ^= w >> 7
	return w ^ w<<17
}

func lists() [][]uint64 {
	l := [][]uint64{nil, {}, {0}, {1}, {1 << 63}, {^uint64(0)}, {0, 0}, {1, 2, 3}, {0, 1 << 32}}
	w := uint64(88172645463325252)
	for n := 1; n < 40; n += 3 {
		var x []uint64
		for range n {
			w = next(w)
			x = append(x, w)
		}
		l = append(l, x)
	}
	return l
}

// sum is the library's check sum of the same bits.
func sum(l []uint64) uint32 {
	var b []byte
	for _, w := range l {
		b = binary.LittleEndian.AppendUint64(b, w)
	}
	return crc32.ChecksumIEEE(b)
}

func TestOf(t *testing.T) {
	if got := seal.Of(nil); got != 0 {
		t.Errorf("of none: %x", got)
	}
	if got := seal.Of([]uint64{0}); got != 0x6522df69 {
		t.Errorf("of one word 0: %x", got)
	}
	for _, l := range lists() {
		if got := seal.Of(l); got != sum(l) {
			t.Errorf("Of(%x) is %x, not %x", l, got, sum(l))
		}
	}
}

func TestMore(t *testing.T) {
	for _, l := range lists() {
		for i := range len(l) + 1 {
			if got := seal.More(seal.Of(l[:i]), l[i:]); got != sum(l) {
				t.Errorf("%x, and more from %d on: %x", l, i, got)
			}
		}
	}
	for _, s := range []uint32{0, 1, 0xffffffff, 0x6522df69} {
		if got := seal.More(s, nil); got != s {
			t.Errorf("none more than %x is %x", s, got)
		}
	}
}

func TestSealAndOpen(t *testing.T) {
	for _, l := range lists() {
		kept := slices.Clone(l)
		sealed := seal.Seal(l)
		if !slices.Equal(sealed, append(slices.Clone(l), uint64(sum(l)))) {
			t.Fatalf("Seal(%x) is %x", l, sealed)
		}
		if !slices.Equal(l, kept) {
			t.Fatalf("%x was changed to %x", kept, l)
		}
		opened, ok := seal.Open(sealed)
		if !ok || !slices.Equal(opened, l) {
			t.Fatalf("%x is opened as %x, %v", sealed, opened, ok)
		}
		if len(opened) > 0 {
			opened[0]++
			sealed[len(sealed)-1]++
			if !slices.Equal(sealed[:len(l)], kept) || !slices.Equal(l, kept) {
				t.Fatal("an answer shares its words")
			}
		}
	}
}

func TestOpenWrong(t *testing.T) {
	if l, ok := seal.Open(nil); ok || len(l) != 0 {
		t.Errorf("no word is opened: %x", l)
	}
	if l, ok := seal.Open([]uint64{0}); !ok || len(l) != 0 {
		t.Errorf("the check sum of none isn't opened: %x %v", l, ok)
	}
	for _, wrong := range [][]uint64{{1}, {1 << 32}, {0, 0}, {0, 0x6522df69 | 1<<32}, {0, 0x6522df68}, {0, 0x6522df69, 0}, {1, 0x6522df69}} {
		if l, ok := seal.Open(wrong); ok || len(l) != 0 {
			t.Errorf("%x is opened as %x", wrong, l)
		}
	}
}

func TestUnlikeWords(t *testing.T) {
	for _, l := range lists() {
		w := uint64(len(l) + 1)
		for i := range 64 * len(l) {
			w = next(w)
			x := slices.Clone(l)
			burst := w&0xfffffffe | 1
			x[i/64] ^= burst << uint(i%64)
			if i%64 > 32 && i/64+1 < len(x) {
				x[i/64+1] ^= burst >> uint(64-i%64)
			}
			if seal.Of(x) == seal.Of(l) {
				t.Fatalf("%x and %x have one check sum", x, l)
			}
		}
		sealed := seal.Seal(l)
		for i := range 64 * len(sealed) {
			sealed[i/64] ^= 1 << uint(i%64)
			if _, ok := seal.Open(sealed); ok {
				t.Fatalf("%x is opened", sealed)
			}
			sealed[i/64] ^= 1 << uint(i%64)
		}
	}
}
