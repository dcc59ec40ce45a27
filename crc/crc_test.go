package crc

import (
	"bytes"
	"hash/crc32"
	"math"
	"testing"

	"thresher/api"
	"thresher/num"
)

// filler is n bytes of a fixed rule, so that neighbours differ.
func filler(n int) []byte {
	b := make([]byte, n)
	x := uint32(n) + 1
	for i := range b {
		x = x*1664525 + 1013904223
		b[i] = byte(x >> 24)
	}
	return b
}

func join(l ...[]byte) []byte {
	return bytes.Join(l, nil)
}

// turned is b with those bits turned, from the first on, where the pattern has a 1.
func turned(b []byte, first int, pattern uint32) []byte {
	b = bytes.Clone(b)
	for i := range 32 {
		if pattern>>i&1 == 1 {
			b[(first+i)/8] ^= 1 << ((first + i) % 8)
		}
	}
	return b
}

func unframe(t *testing.T, b, want []byte, wantN int, wantE api.Errno) {
	t.Helper()
	got, n, e := Unframe(b)
	if !bytes.Equal(got, want) || n != wantN || e != wantE {
		t.Errorf("Unframe of %d bytes: %d bytes, %d, %d; want %d bytes, %d, %d", len(b), len(got), n, e, len(want), wantN, wantE)
	}
}

// P2.1
func TestSum(t *testing.T) {
	for s, want := range map[string]uint32{
		"":                 0,
		"\x00":             0xD202EF8D,
		"\xff":             0xFF000000,
		"a":                0xE8B7BE43,
		"123456789":        0xCBF43926,
		"\x00\x00\x00\x00": 0x2144DF1C,
		"\xff\xff\xff\xff": 0xFFFFFFFF,
	} {
		if x := Sum([]byte(s)); x != want {
			t.Errorf("Sum(%q) = %08X, want %08X", s, x, want)
		}
	}
	if x := Sum(nil); x != 0 {
		t.Errorf("Sum(nil) = %08X", x)
	}
}

// P2.1
func TestSumOfEachByte(t *testing.T) {
	for c := range 256 {
		b := []byte{byte(c)}
		if x, want := Sum(b), crc32.ChecksumIEEE(b); x != want {
			t.Errorf("Sum(%v) = %08X, want %08X", b, x, want)
		}
	}
}

// P2.1
func TestSumOfManyBytes(t *testing.T) {
	for n := range 300 {
		b := filler(n)
		if x, want := Sum(b), crc32.ChecksumIEEE(b); x != want {
			t.Errorf("Sum of %d bytes = %08X, want %08X", n, x, want)
		}
	}
	b := filler(api.MaxBytes)
	if x, want := Sum(b), crc32.ChecksumIEEE(b); x != want {
		t.Errorf("Sum of %d bytes = %08X, want %08X", len(b), x, want)
	}
}

// P2.2
func TestFrame(t *testing.T) {
	for s, want := range map[string]string{
		"":          "\x00\x00\x00\x00\x00",
		"a":         "\x01\x43\xbe\xb7\xe8a",
		"123456789": "\x09\x26\x39\xf4\xcb123456789",
	} {
		if b := Frame([]byte(s)); string(b) != want {
			t.Errorf("Frame(%q) = %q, want %q", s, b, want)
		}
	}
	for _, n := range []int{127, 128, 16383, 16384, api.MaxBytes, api.MaxBytes + 1} {
		data := filler(n)
		x := crc32.ChecksumIEEE(data)
		want := join(num.PutVar(uint64(n)), []byte{byte(x), byte(x >> 8), byte(x >> 16), byte(x >> 24)}, data)
		if b := Frame(data); !bytes.Equal(b, want) {
			t.Errorf("Frame of %d bytes begins with %v, want %v", n, b[:8], want[:8])
		}
	}
}

// P2.2
func TestUnframe(t *testing.T) {
	unframe(t, []byte("\x00\x00\x00\x00\x00"), nil, 5, api.OK)
	unframe(t, []byte("\x01\x43\xbe\xb7\xe8a"), []byte("a"), 6, api.OK)
	unframe(t, []byte("\x01\x43\xbe\xb7\xe8az"), []byte("a"), 6, api.OK)
}

// P2.2
func TestUnframeOfWrongLengths(t *testing.T) {
	for _, b := range [][]byte{
		nil,
		{},
		{128},
		{128, 0, 0, 0, 0, 0},
		bytes.Repeat([]byte{255}, 30),
		join(num.PutVar(math.MaxUint64), filler(30)),
		join(num.PutVar(math.MaxUint64-3), filler(30)),
		join(num.PutVar(1<<63), filler(30)),
		join(num.PutVar(1<<63-1), filler(30)),
		join(num.PutVar(1<<63-5), filler(30)),
		join(num.PutVar(1<<32), make([]byte, 30)),
		join(num.PutVar(api.MaxBytes+1), filler(30)),
	} {
		unframe(t, b, nil, 0, api.ErrBad)
	}
}

// P2.2
func TestUnframeOfTooFewBytes(t *testing.T) {
	for _, size := range []int{0, 1, 5, 127, 128, 300} {
		f := Frame(filler(size))
		for n := range f {
			unframe(t, f[:n:n], nil, 0, api.ErrBad)
			// What stands behind the slice's end is not of it.
			unframe(t, f[:n], nil, 0, api.ErrBad)
		}
	}
}

// P2.2
func TestUnframeAtMaxBytes(t *testing.T) {
	data := filler(api.MaxBytes)
	f := Frame(data)
	unframe(t, f, data, len(f), api.OK)
	unframe(t, f[:len(f)-1], nil, 0, api.ErrBad)
	unframe(t, Frame(filler(api.MaxBytes+1)), nil, 0, api.ErrBad)
}

// P2.2
func TestUnframeOfWrongSums(t *testing.T) {
	for _, size := range []int{0, 1, 200} {
		data := filler(size)
		f := Frame(data)
		first := len(f) - size - 4
		for bit := range 32 {
			unframe(t, turned(f, 8*first+bit, 1), nil, 0, api.ErrSum)
		}
	}
	unframe(t, []byte("\x01\x43\xbe\xb7\xe8b"), nil, 0, api.ErrSum)
	unframe(t, []byte("\x01\xe8\xb7\xbe\x43a"), nil, 0, api.ErrSum)
}

// P2.3
func TestFramedIsTold(t *testing.T) {
	behinds := [][]byte{nil, {0}, {255}, Frame(nil), Frame(filler(40)), filler(50), make([]byte, 50)}
	for n := range 300 {
		data := filler(n)
		f := Frame(data)
		for _, behind := range behinds {
			unframe(t, join(f, behind), data, len(f), api.OK)
		}
	}
}

// P2.3
func TestTurnedBitsChangeTheSum(t *testing.T) {
	patterns := []uint32{1, 3, 5, 0xFF, 0x101, 0xFFFF, 0x80000001, 0xFFFFFFFF, 0xEDB88320 | 1, 0xDB710641, 0xA5A5A5A5}
	data := filler(70)
	f := Frame(data)
	head := 8 * (len(f) - len(data))
	for _, p := range patterns {
		for first := range 8*len(data) - 31 {
			bad := turned(data, first, p)
			if Sum(bad) == Sum(data) {
				t.Errorf("bits %08X from %d on change no sum", p, first)
			}
			unframe(t, turned(f, head+first, p), nil, 0, api.ErrSum)
		}
	}
	for bit := range 8 * len(data) {
		unframe(t, turned(f, head+bit, 1), nil, 0, api.ErrSum)
	}
}

// R7
func TestNothingIsShared(t *testing.T) {
	data := filler(20)
	f := Frame(data)
	kept := bytes.Clone(f)
	data[3]++
	if !bytes.Equal(f, kept) {
		t.Error("a frame sees what becomes of the bytes that were framed")
	}
	got, _, _ := Unframe(f)
	_ = append(got, 99)
	got[0]++
	if !bytes.Equal(f, kept) {
		t.Error("a frame sees what becomes of the bytes that were told of it")
	}
}
