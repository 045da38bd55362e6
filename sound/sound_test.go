package sound_test

import (
	"math"
	"math/rand"
	"reflect"
	"slices"
	"testing"

	"lockfast/api"
	"lockfast/chunk"
	"lockfast/oid"
	"lockfast/sound"
	"lockfast/super"
)

func pool(lanes, chunks int) ([]uint64, api.Geometry) {
	g := api.Geometry{Words: 10 + 73*lanes + 33*chunks + 4, Lanes: lanes}
	image := make([]uint64, g.Words)
	head, _ := super.Encode(g)
	copy(image, head)
	return image, g
}

func tableAt(g api.Geometry) int { return 10 + 73*g.Lanes }

func chunkAt(g api.Geometry, i int) int {
	chunks := (g.Words - tableAt(g)) / 33
	return tableAt(g) + chunks + 32*i
}

func setChunk(image []uint64, g api.Geometry, i int, c api.Chunk) {
	w, _ := chunk.Encode(c)
	image[tableAt(g)+i] = w
}

func lay(image []uint64, at int, h api.Header) {
	w, _ := oid.Encode(h)
	copy(image[at:], w)
}

var (
	many  = [3]int{8, 4, 2}
	least = [3]int{0, 3, 7}
	most  = [3]int{2, 6, 14}
	words = [3]int{4, 8, 16}
)

// filled is a sound pool, as chance has it, and its objects.
func filled(r *rand.Rand) ([]uint64, api.Geometry, []api.Object) {
	image, g := pool(1+r.Intn(3), 4+r.Intn(6))
	for i := chunkAt(g, 0); i < len(image); i++ {
		image[i] = r.Uint64()
	}
	image[9] = 5
	var l []api.Object
	serial := uint64(r.Intn(1 << 30))
	add := func(at, size int) {
		serial += 1 + uint64(r.Intn(1<<32))
		if serial>>32 > 5 {
			serial = 1<<30 + uint64(len(l))
		}
		h := api.Header{Type: 1 + r.Intn(65535), Size: size, Serial: serial}
		lay(image, at, h)
		l = append(l, api.Object{Oid: oid.Name(at, h), Data: slices.Clone(image[at+2 : at+2+size])})
	}
	for i, chunks := 0, (g.Words-tableAt(g))/33; i < chunks; i++ {
		left := chunks - i
		switch r.Intn(3) {
		case 0:
			class := r.Intn(3)
			bits := uint64(r.Intn(1 << many[class]))
			setChunk(image, g, i, api.Chunk{Kind: api.Run, Class: class, Bits: bits})
			for b := range many[class] {
				if bits>>uint(b)&1 == 1 {
					add(chunkAt(g, i)+b*words[class], least[class]+r.Intn(most[class]-least[class]+1))
				}
			}
		case 1:
			n := 1 + r.Intn(min(left, 3))
			setChunk(image, g, i, api.Chunk{Kind: api.Huge, Many: n})
			for k := 1; k < n; k++ {
				setChunk(image, g, i+k, api.Chunk{Kind: api.Tail})
			}
			add(chunkAt(g, i), max(15, 32*n-2-r.Intn(32)))
			i += n - 1
		}
	}
	return image, g, l
}

func unsound(t *testing.T, image []uint64, why string) {
	t.Helper()
	if e := sound.Sound(image); e != api.ErrCorrupt {
		t.Errorf("%s: %v", why, e)
	}
	if l := sound.Objects(image); len(l) != 0 {
		t.Errorf("%s: objects %v", why, l)
	}
	if o := sound.Root(image); o != (api.Oid{}) {
		t.Errorf("%s: root %v", why, o)
	}
}

func same(a, b []api.Object) bool {
	return slices.EqualFunc(a, b, func(x, y api.Object) bool { return x.Oid == y.Oid && slices.Equal(x.Data, y.Data) })
}

func TestSoundPools(t *testing.T) {
	r := rand.New(rand.NewSource(16))
	for range 50 {
		image, g, l := filled(r)
		kept := slices.Clone(image)
		if e := sound.Sound(image); e != api.OK {
			t.Fatal(e)
		}
		got := sound.Objects(image)
		if !same(got, l) {
			t.Fatalf("objects %v, not %v", got, l)
		}
		for i := range got {
			for k := range got[i].Data {
				got[i].Data[k]++
			}
		}
		if !slices.Equal(image, kept) {
			t.Fatal("what was handed in is changed")
		}
		if o := sound.Root(image); o != (api.Oid{}) {
			t.Fatalf("no root is %v", o)
		}
		ats := map[uint64]api.Oid{}
		for _, x := range l {
			ats[uint64(x.Oid.At)] = x.Oid
		}
		for root := range uint64(g.Words + 3) {
			image[8] = root
			if want, ok := ats[root]; ok {
				if o := sound.Root(image); o != want || sound.Sound(image) != api.OK {
					t.Fatalf("the root at %d is %v", root, o)
				}
				image[8] = root | 1<<40
			}
			if root > 0 {
				unsound(t, image, "a root that is none")
			}
		}
		image[8] = 0
		checkBroken(t, r, image, g, l)
	}
}

// checkBroken breaks a sound pool in one of many ways.
func checkBroken(t *testing.T, r *rand.Rand, image []uint64, g api.Geometry, l []api.Object) {
	t.Helper()
	change := func(at int, w uint64, why string) {
		t.Helper()
		kept := image[at]
		image[at] = w
		unsound(t, image, why)
		image[at] = kept
	}
	for i := range 8 {
		change(i, image[i]^1<<uint(r.Intn(64)), "no head")
	}
	lane := r.Intn(g.Lanes)
	for _, w := range []uint64{1, 2, 3, 4, 1 | 7<<16, 2 | 1<<2 | 7<<16} {
		change(10+lane, w, "a lane that isn't idle")
	}
	for _, epoch := range []uint64{1 << 32, 1<<32 | 5, 1 << 63, math.MaxUint64} {
		change(9, epoch, "an epoch that is too great")
	}
	for _, x := range l {
		change(x.Oid.At, 0, "no header")
		change(x.Oid.At+1, 0, "no serial")
		change(x.Oid.At+1, 6<<32, "a serial of an epoch to come")
		change(x.Oid.At+1, math.MaxUint64, "a serial of an epoch to come")
		size := len(x.Data)
		room := 32 * ((size + 33) / 32)
		for class := 2; class >= 0; class-- {
			if size <= most[class] {
				room = words[class]
			}
		}
		for _, other := range []int{0, 2, 3, 6, 7, 14, 15, 30, 31, 62, 63, 94, 95, 4096} {
			o := 32 * ((other + 33) / 32)
			for class := 2; class >= 0; class-- {
				if other <= most[class] {
					o = words[class]
				}
			}
			if o != room {
				change(x.Oid.At, uint64(x.Oid.Type)|uint64(other)<<16|0xfa57<<48, "a size of another room")
			}
		}
	}
	for i := 1; i < len(l); i++ {
		change(l[i].Oid.At+1, l[r.Intn(i)].Oid.Serial, "one serial twice")
	}
}

func TestTables(t *testing.T) {
	image, g := pool(2, 3)
	for _, w := range []uint64{4, 4 | 1<<5, 4 | 63<<5 | 7<<11, 5, 3, 2 | 2<<11, 1 << 40} {
		for i := range 3 {
			image[tableAt(g)+i] = w
			if i == 0 || w != 3 && w != 2|2<<11 {
				unsound(t, image, "a table that isn't right, or has logs")
			}
			image[tableAt(g)+i] = 0
		}
	}
	if e := sound.Sound(image); e != api.OK {
		t.Error(e)
	}
	for i := range 3 {
		setChunk(image, g, i, api.Chunk{Kind: api.Run, Class: i})
	}
	if e := sound.Sound(image); e != api.OK || len(sound.Objects(image)) != 0 {
		t.Errorf("empty runs: %v", e)
	}
}

func TestSerials(t *testing.T) {
	image, g := pool(1, 2)
	setChunk(image, g, 0, api.Chunk{Kind: api.Run, Class: 2, Bits: 3})
	at := chunkAt(g, 0)
	image[9] = sound.MaxEpoch
	lay(image, at, api.Header{Type: 1, Size: 7, Serial: math.MaxUint64})
	lay(image, at+16, api.Header{Type: 1, Size: 14, Serial: 1})
	if e := sound.Sound(image); e != api.OK {
		t.Error(e)
	}
	image[9] = sound.MaxEpoch - 1
	unsound(t, image, "a serial of the epoch to come")
	image[9], image[at+1] = 7, 7<<32|1<<31
	if e := sound.Sound(image); e != api.OK {
		t.Error(e)
	}
	image[at+1] = 8 << 32
	unsound(t, image, "a serial of the epoch to come")
	image[9], image[at+1] = 0, 2
	if e := sound.Sound(image); e != api.OK {
		t.Error(e)
	}
	if sound.MaxEpoch != 0xffffffff {
		t.Error("the greatest epoch is wrong")
	}
}

// TestSerialsTwice gives each two of a pool's objects one serial, wherever they lie.
func TestSerialsTwice(t *testing.T) {
	image, g := pool(1, 4)
	setChunk(image, g, 0, api.Chunk{Kind: api.Run, Class: 1, Bits: 15})
	setChunk(image, g, 1, api.Chunk{Kind: api.Huge, Many: 2})
	setChunk(image, g, 2, api.Chunk{Kind: api.Tail})
	setChunk(image, g, 3, api.Chunk{Kind: api.Run, Class: 0, Bits: 1 << 7})
	var ats []int
	for i := range 4 {
		ats = append(ats, chunkAt(g, 0)+8*i)
		lay(image, ats[i], api.Header{Type: 1, Size: 3, Serial: uint64(40 - 7*i)})
	}
	ats = append(ats, chunkAt(g, 1), chunkAt(g, 3)+28)
	lay(image, ats[4], api.Header{Type: 2, Size: 40, Serial: 1})
	lay(image, ats[5], api.Header{Type: 3, Size: 0, Serial: 5})
	for i, a := range ats {
		for _, b := range ats[:i] {
			if e := sound.Sound(image); e != api.OK || len(sound.Objects(image)) != len(ats) {
				t.Fatalf("all serials differ: %v", e)
			}
			kept := image[a+1]
			image[a+1] = image[b+1]
			unsound(t, image, "one serial twice")
			image[a+1] = kept
		}
	}
}

func TestNoPools(t *testing.T) {
	image, g := pool(1, 2)
	if e := sound.Sound(image); e != api.OK || len(sound.Objects(image)) != 0 || sound.Root(image) != (api.Oid{}) {
		t.Errorf("the chapter's example: %v", e)
	}
	for _, l := range [][]uint64{nil, {}, image[:7], image[:8], image[:g.Words-1], append(slices.Clone(image), 0), make([]uint64, g.Words)} {
		unsound(t, l, "no pool")
	}
}

func TestHugeOnes(t *testing.T) {
	image, g := pool(1, 130)
	setChunk(image, g, 1, api.Chunk{Kind: api.Huge, Many: 129})
	for i := 2; i < 130; i++ {
		setChunk(image, g, i, api.Chunk{Kind: api.Tail})
	}
	lay(image, chunkAt(g, 1), api.Header{Type: 9, Size: 4096, Serial: 3})
	image[len(image)-5] = 0
	if l := sound.Objects(image); len(l) != 1 || len(l[0].Data) != 4096 || l[0].Oid != (api.Oid{At: chunkAt(g, 1), Type: 9, Serial: 3}) {
		t.Error("an object of 4096 words isn't told")
	}
	lay(image, chunkAt(g, 1), api.Header{Type: 9, Size: 4094, Serial: 3})
	unsound(t, image, "a size of fewer chunks")
}

func TestPlace(t *testing.T) {
	_, g := pool(2, 5)
	for i := range 5 {
		for class := range 3 {
			for b := range many[class] {
				if got := sound.Place(g, api.Block{Chunk: i, Index: b, Words: words[class]}); got != chunkAt(g, i)+b*words[class] {
					t.Errorf("the block %d of %d, of class %d, is at %d", b, i, class, got)
				}
			}
		}
		if got := sound.Place(g, api.Block{Chunk: i, Words: 64}); got != chunkAt(g, i) {
			t.Errorf("the huge one at %d is at %d", i, got)
		}
	}
}

func TestApart(t *testing.T) {
	r := rand.New(rand.NewSource(17))
	for range 100 {
		image, g, _ := filled(r)
		seen := map[int]bool{}
		for _, x := range sound.Objects(image) {
			for at := x.Oid.At; at < x.Oid.At+2+len(x.Data); at++ {
				if seen[at] || at < chunkAt(g, 0) || at >= len(image)-4 {
					t.Fatalf("%d is twice, or in no chunk", at)
				}
				seen[at] = true
			}
		}
	}
}

func TestAnyWords(t *testing.T) {
	r := rand.New(rand.NewSource(18))
	for range 2000 {
		image, g, _ := filled(r)
		for range 1 + r.Intn(3) {
			image[r.Intn(chunkAt(g, 2))] ^= 1 << uint(r.Intn(64))
		}
		e := sound.Sound(image)
		l, again := sound.Objects(image), sound.Objects(image)
		if e != api.OK && (e != api.ErrCorrupt || len(l) != 0) || !reflect.DeepEqual(l, again) {
			t.Fatal(e, l)
		}
		sound.Root(image)
	}
}
