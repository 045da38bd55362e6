package super_test

import (
	"encoding/binary"
	"hash/crc32"
	"math"
	"slices"
	"testing"

	"lockfast/api"
	"lockfast/super"
)

// sealed are words with their check sum, as the library tells it.
func sealed(l ...uint64) []uint64 {
	var b []byte
	for _, w := range l {
		b = binary.LittleEndian.AppendUint64(b, w)
	}
	return append(l, uint64(crc32.ChecksumIEEE(b)))
}

// right are geometries that can be, with how many chunks each has.
var right = []struct {
	g      api.Geometry
	chunks uint64
}{
	{api.Geometry{Words: 116, Lanes: 1}, 1},
	{api.Geometry{Words: 149, Lanes: 1}, 2},
	{api.Geometry{Words: 148, Lanes: 1}, 1},
	{api.Geometry{Words: 500, Lanes: 3}, 8},
	{api.Geometry{Words: 4715, Lanes: 64}, 1},
	{api.Geometry{Words: 65536, Lanes: 64}, 1844},
	{api.Geometry{Words: 65536, Lanes: 1}, 1983},
}

func pool(words int, head []uint64) []uint64 {
	l := make([]uint64, words)
	copy(l, head)
	return l
}

func TestEncode(t *testing.T) {
	for _, x := range right {
		l, e := super.Encode(x.g)
		want := sealed(0x545341464b434f4c, 1, uint64(x.g.Words), uint64(x.g.Lanes), x.chunks, 0, 0)
		if e != api.OK || !slices.Equal(l, want) {
			t.Errorf("the head of %v is %x, %v, not %x", x.g, l, e, want)
		}
	}
	for _, g := range []api.Geometry{{}, {Words: 115, Lanes: 1}, {Words: 149}, {Words: 149, Lanes: -1}, {Words: 65536, Lanes: 65}, {Words: 65537, Lanes: 1}, {Words: math.MinInt, Lanes: 1}, {Words: math.MaxInt, Lanes: 1}} {
		if l, e := super.Encode(g); e != api.ErrArg || len(l) != 0 {
			t.Errorf("the head of %v is %x, %v", g, l, e)
		}
	}
}

func TestMagic(t *testing.T) {
	if b := binary.LittleEndian.AppendUint64(nil, super.Magic); string(b) != "LOCKFAST" || super.Version != 1 {
		t.Errorf("%q, %d", b, super.Version)
	}
}

func TestDecode(t *testing.T) {
	for _, x := range right {
		head, _ := super.Encode(x.g)
		l := pool(x.g.Words, head)
		l[x.g.Words-1] = 99
		if g, e := super.Decode(l); g != x.g || e != api.OK {
			t.Errorf("%v is decoded as %v, %v", x.g, g, e)
		}
	}
}

func corrupt(t *testing.T, l []uint64) {
	t.Helper()
	if g, e := super.Decode(l); e != api.ErrCorrupt || g != (api.Geometry{}) {
		t.Errorf("%x.. of %d words is decoded as %v, %v", l[:min(len(l), 8)], len(l), g, e)
	}
}

func TestDecodeWrong(t *testing.T) {
	head, _ := super.Encode(api.Geometry{Words: 149, Lanes: 1})
	for n := range 9 {
		corrupt(t, pool(n, head))
	}
	for _, words := range []int{0, 148, 150, 182, 65536, 65537} {
		corrupt(t, pool(words, head))
	}
	for _, h := range [][]uint64{
		sealed(super.Magic+1, 1, 149, 1, 2, 0, 0),
		sealed(super.Magic, 2, 149, 1, 2, 0, 0),
		sealed(super.Magic, 0, 149, 1, 2, 0, 0),
		sealed(super.Magic, 1, 150, 1, 2, 0, 0),
		sealed(super.Magic, 1, 149, 0, 2, 0, 0),
		sealed(super.Magic, 1, 149, 2, 2, 0, 0),
		sealed(super.Magic, 1, 149, 2, 0, 0, 0),
		sealed(super.Magic, 1, 149, 1<<32|1, 2, 0, 0),
		sealed(super.Magic, 1, 149, 1<<63|1, 2, 0, 0),
		sealed(super.Magic, 1, 149, math.MaxUint64, 2, 0, 0),
		sealed(super.Magic, 1, 149, 1, 1, 0, 0),
		sealed(super.Magic, 1, 149, 1, 3, 0, 0),
		sealed(super.Magic, 1, 149, 1, 2, 1, 0),
		sealed(super.Magic, 1, 149, 1, 2, 0, 1),
		{super.Magic, 1, 149, 1, 2, 0, 0, 0},
		make([]uint64, 8),
	} {
		corrupt(t, pool(149, h))
	}
	h := sealed(super.Magic, 1, 149, 1, 2, 0, 0)
	h[7] |= 1 << 32
	corrupt(t, pool(149, h))
	corrupt(t, pool(115, sealed(super.Magic, 1, 115, 1, 0, 0, 0)))
	corrupt(t, pool(65537, sealed(super.Magic, 1, 65537, 1, 1983, 0, 0)))
	corrupt(t, pool(65536, sealed(super.Magic, 1, 65536, 65, 1842, 0, 0)))
}

func TestOneWordUnlike(t *testing.T) {
	head, _ := super.Encode(api.Geometry{Words: 149, Lanes: 1})
	for i := range head {
		for at := range 33 {
			for _, burst := range []uint64{1, 3, 0x80000001, 0xffffffff, 0xdeadbeef} {
				l := pool(149, head)
				l[i] ^= burst << uint(at)
				corrupt(t, l)
			}
		}
	}
}

func TestMemoryOfItsOwn(t *testing.T) {
	g := api.Geometry{Words: 149, Lanes: 1}
	head, _ := super.Encode(g)
	l := pool(149, head)
	kept := slices.Clone(l)
	super.Decode(l)
	if !slices.Equal(l, kept) {
		t.Error("what was handed in is changed")
	}
	head[0] = 0
	if again, _ := super.Encode(g); again[0] != super.Magic {
		t.Error("a changed answer changes the next one")
	}
}
