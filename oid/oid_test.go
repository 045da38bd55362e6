package oid_test

import (
	"fmt"
	"math"
	"slices"
	"strings"
	"testing"

	"lockfast/api"
	"lockfast/oid"
)

func headers() []api.Header {
	var l []api.Header
	for _, typ := range []int{math.MinInt, -65536, -1, 0, 1, 2, 3, 255, 256, 65534, 65535, 65536, 65537, 1 << 32, 1<<32 + 1, math.MaxInt} {
		for _, size := range []int{math.MinInt, -65536, -1, 0, 1, 2, 255, 4095, 4096, 4097, 65536, 65537, 1 << 32, math.MaxInt} {
			for _, serial := range []uint64{0, 1, 7, 1<<32 | 1, 1 << 63, math.MaxUint64} {
				l = append(l, api.Header{Type: typ, Size: size, Serial: serial})
			}
		}
	}
	return l
}

func right(h api.Header) bool {
	return h.Type >= 1 && h.Type <= 65535 && h.Size >= 0 && h.Size <= 4096 && h.Serial != 0
}

func TestRightAndEncode(t *testing.T) {
	for _, h := range headers() {
		if got := oid.Right(h); got != right(h) {
			t.Errorf("whether %v is right: %v", h, got)
		}
		l, e := oid.Encode(h)
		if !right(h) {
			if len(l) != 0 || e != api.ErrArg {
				t.Errorf("the words of %v are %x, %v", h, l, e)
			}
			continue
		}
		want := []uint64{uint64(h.Type) + uint64(h.Size)<<16 + 0xfa57<<48, h.Serial}
		if !slices.Equal(l, want) || e != api.OK {
			t.Errorf("the words of %v are %x, %v", h, l, e)
		}
		for _, more := range [][]uint64{nil, {0}, {9, 9, 9}} {
			if back, ok := oid.Decode(append(slices.Clone(l), more...)); !ok || back != h {
				t.Errorf("%v is decoded as %v, %v", h, back, ok)
			}
		}
	}
}

func TestDecodeWrong(t *testing.T) {
	good := []uint64{3 + 2<<16 + 0xfa57<<48, 7}
	if h, ok := oid.Decode(good); !ok || h != (api.Header{Type: 3, Size: 2, Serial: 7}) {
		t.Fatal(h, ok)
	}
	wrong := [][]uint64{nil, good[:1], {0, 0}, {good[0], 0}, {0, 7}, {3 + 2<<16, 7}, {2<<16 + 0xfa57<<48, 7}, {3 + 4097<<16 + 0xfa57<<48, 7}, {3 + 65535<<16 + 0xfa57<<48, 7}}
	for i := 32; i < 64; i++ {
		wrong = append(wrong, []uint64{good[0] ^ 1<<uint(i), 7})
	}
	for _, l := range wrong {
		if h, ok := oid.Decode(l); ok || h != (api.Header{}) {
			t.Errorf("%x is decoded as %v", l, h)
		}
	}
	for _, l := range [][]uint64{{1 + 0xfa57<<48, 1}, {65535 + 4096<<16 + 0xfa57<<48, math.MaxUint64}} {
		if _, ok := oid.Decode(l); !ok {
			t.Errorf("%x isn't decoded", l)
		}
	}
	if oid.HeaderWords != 2 || oid.Sign != 0xfa57 {
		t.Error("what a header has is wrong")
	}
}

func TestName(t *testing.T) {
	for _, at := range []int{math.MinInt, -1, 0, 85, math.MaxInt} {
		if got := oid.Name(at, api.Header{Type: 3, Size: 9, Serial: 7}); got != (api.Oid{At: at, Type: 3, Serial: 7}) {
			t.Errorf("the name at %d is %v", at, got)
		}
	}
}

func TestTextAndParse(t *testing.T) {
	for _, at := range []int{math.MinInt, -1, 0, 1, 10, 85, 65535, math.MaxInt32, math.MaxInt32 + 1, math.MaxInt} {
		for _, typ := range []int{math.MinInt, -1, 0, 3, 100, 65535, math.MaxInt32, math.MaxInt32 + 1, math.MaxInt} {
			for _, serial := range []uint64{0, 7, 4294967297, 10000000000000000000, math.MaxUint64 - 1, math.MaxUint64} {
				checkText(t, api.Oid{At: at, Type: typ, Serial: serial})
			}
		}
	}
	if got := oid.Text(api.Oid{At: 85, Type: 3, Serial: 7}); got != "85.3.7" {
		t.Errorf("the chapter's example: %q", got)
	}
}

func checkText(t *testing.T, o api.Oid) {
	t.Helper()
	want := ""
	if o.At >= 0 && o.Type >= 0 {
		want = fmt.Sprintf("%d.%d.%d", o.At, o.Type, o.Serial)
	}
	got := oid.Text(o)
	if got != want {
		t.Errorf("the text of %v is %q, not %q", o, got, want)
	}
	back, ok := oid.Parse(got)
	if want == "" || o.At >= 1<<31 || o.Type >= 1<<31 {
		if ok || back != (api.Oid{}) {
			t.Errorf("%q is parsed as %v", got, back)
		}
	} else if !ok || back != o {
		t.Errorf("%q is parsed as %v, %v", got, back, ok)
	}
}

func TestParseWrong(t *testing.T) {
	good := "85.3.7"
	wrong := []string{"", ".", "..", "...", "85", "85.3", "85.3.", ".3.7", "85..7", "85.3.7.", "85.3.7.1", ".85.3.7", " 85.3.7", "85.3.7 ", "85. 3.7", "85.3.7\n", "085.3.7", "85.03.7", "85.3.07", "00.3.7", "85.00.7", "85.3.00", "-85.3.7", "+85.3.7", "85.-3.7", "85.3.-7", "85.3.+7", "8_5.3.7", "0x5.3.7", "85.3.7e1", "85,3,7", "85.3.7x", "a.b.c", "2147483648.3.7", "85.2147483648.7", "85.3.18446744073709551616", "85.3.18446744073709551620", "85.3.99999999999999999999", "99999999999999999999.3.7", "85.3.184467440737095516150", "18446744073709551701.3.7", "85.3.\xff", "\xff85.3.7", "85.3.٧", "85.3.7\x00", "８５.3.7", "85.3/7", "85:3:7", "85.:.7", "85.3./"}
	for i := range good {
		wrong = append(wrong, good[:i]+"\u00e9"+good[i:], good[:i]+"\x80"+good[i:])
	}
	wrong = append(wrong, strings.Repeat("1", 1000)+".3.7", strings.Repeat(".", 1000))
	for _, s := range wrong {
		if o, ok := oid.Parse(s); ok || o != (api.Oid{}) {
			t.Errorf("%q is parsed as %v", s, o)
		}
	}
	for s, want := range map[string]api.Oid{
		"0.0.0": {},
		"2147483647.2147483647.18446744073709551615": {At: 2147483647, Type: 2147483647, Serial: math.MaxUint64},
		"10.100.1000": {At: 10, Type: 100, Serial: 1000},
	} {
		if o, ok := oid.Parse(s); !ok || o != want {
			t.Errorf("%q is parsed as %v, %v", s, o, ok)
		}
	}
}
