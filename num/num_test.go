package num

import (
	"bytes"
	"math"
	"testing"
)

// edges are the numbers around each power of two, and those around both ends.
func edges() []uint64 {
	l := []uint64{0, 300, math.MaxUint64}
	for i := range 64 {
		p := uint64(1) << i
		l = append(l, p-1, p, p+1, ^p, -p)
	}
	return l
}

// behinds are bytes that may stand behind a number, among them ones that look like more of it.
func behinds() [][]byte {
	return [][]byte{nil, {0}, {1}, {127}, {128}, {255}, {128, 1}, bytes.Repeat([]byte{255}, 20), bytes.Repeat([]byte{0}, 20)}
}

// parts is PutVar, told by division as the document's words say it.
func parts(x uint64) []byte {
	l := []byte{byte(x % 128)}
	for x /= 128; x > 0; x /= 128 {
		l[len(l)-1] += 128
		l = append(l, byte(x%128))
	}
	return l
}

func join(a, b []byte) []byte {
	return append(append([]byte{}, a...), b...)
}

// P1.1
func TestPutVar(t *testing.T) {
	for _, c := range []struct {
		x    uint64
		want []byte
	}{
		{0, []byte{0}},
		{1, []byte{1}},
		{127, []byte{127}},
		{128, []byte{128, 1}},
		{300, []byte{172, 2}},
		{16383, []byte{255, 127}},
		{16384, []byte{128, 128, 1}},
		{1<<63 - 1, []byte{255, 255, 255, 255, 255, 255, 255, 255, 127}},
		{1 << 63, []byte{128, 128, 128, 128, 128, 128, 128, 128, 128, 1}},
		{math.MaxUint64, []byte{255, 255, 255, 255, 255, 255, 255, 255, 255, 1}},
	} {
		if b := PutVar(c.x); !bytes.Equal(b, c.want) {
			t.Errorf("PutVar(%d) = %v, want %v", c.x, b, c.want)
		}
	}
	for _, x := range edges() {
		if b := PutVar(x); !bytes.Equal(b, parts(x)) {
			t.Errorf("PutVar(%d) = %v, want %v", x, b, parts(x))
		}
	}
}

// P1.1
func TestVarOfWrongBytes(t *testing.T) {
	nines := bytes.Repeat([]byte{255}, 9)
	for _, b := range [][]byte{
		nil,
		{},
		{128},
		{255, 255},
		{128, 0},
		{255, 0},
		{128, 128, 0},
		nines,
		join(nines, []byte{0}),
		join(nines, []byte{2}),
		join(nines, []byte{3}),
		join(nines, []byte{127}),
		join(nines, []byte{128}),
		join(nines, []byte{129}),
		join(nines, []byte{255}),
		join(nines, []byte{128, 1}),
		join(nines, []byte{129, 0}),
		bytes.Repeat([]byte{128}, 10),
		join(bytes.Repeat([]byte{128}, 10), []byte{1}),
		join(bytes.Repeat([]byte{128}, 70), []byte{1}),
	} {
		if x, n := Var(b); x != 0 || n != 0 {
			t.Errorf("Var(%v) = %d, %d, want 0, 0", b, x, n)
		}
	}
}

// P1.1: of all texts of one or two bytes those that begin with a PutVar are read, and no others.
func TestVarOfAllShortTexts(t *testing.T) {
	put := map[string]uint64{}
	for x := range uint64(1 << 14) {
		put[string(parts(x))] = x
	}
	for i := range 1 << 16 {
		b := []byte{byte(i >> 8), byte(i)}
		for _, s := range [][]byte{b[:1], b} {
			var want uint64
			wantN := 0
			for k := 1; k <= len(s); k++ {
				if x, ok := put[string(s[:k])]; ok {
					want, wantN = x, k
				}
			}
			if x, n := Var(s); x != want || n != wantN {
				t.Fatalf("Var(%v) = %d, %d, want %d, %d", s, x, n, want, wantN)
			}
		}
	}
}

// P1.1: a PutVar that is cut short is none.
func TestVarCutShort(t *testing.T) {
	for _, x := range edges() {
		b := PutVar(x)
		for k := range len(b) {
			if y, n := Var(b[:k]); y != 0 || n != 0 {
				t.Errorf("Var(%v) = %d, %d, want 0, 0", b[:k], y, n)
			}
		}
	}
}

// P1.2
func TestZigZag(t *testing.T) {
	for _, c := range []struct {
		n int64
		u uint64
	}{
		{0, 0}, {-1, 1}, {1, 2}, {-2, 3}, {2, 4}, {-300, 599}, {300, 600},
		{math.MaxInt64, math.MaxUint64 - 1},
		{math.MinInt64 + 1, math.MaxUint64 - 2},
		{math.MinInt64, math.MaxUint64},
	} {
		if u := Zig(c.n); u != c.u {
			t.Errorf("Zig(%d) = %d, want %d", c.n, u, c.u)
		}
		if n := Zag(c.u); n != c.n {
			t.Errorf("Zag(%d) = %d, want %d", c.u, n, c.n)
		}
	}
	for _, x := range edges() {
		n := int64(x)
		want := 2 * x
		if n < 0 {
			want = -x - x - 1
		}
		if u := Zig(n); u != want {
			t.Errorf("Zig(%d) = %d, want %d", n, u, want)
		}
	}
}

// P1.3
func TestPut64(t *testing.T) {
	for _, c := range []struct {
		x    uint64
		want []byte
	}{
		{0, []byte{0, 0, 0, 0, 0, 0, 0, 0}},
		{258, []byte{2, 1, 0, 0, 0, 0, 0, 0}},
		{0x0102030405060708, []byte{8, 7, 6, 5, 4, 3, 2, 1}},
		{1 << 63, []byte{0, 0, 0, 0, 0, 0, 0, 128}},
		{math.MaxUint64, []byte{255, 255, 255, 255, 255, 255, 255, 255}},
	} {
		if b := Put64(c.x); !bytes.Equal(b, c.want) {
			t.Errorf("Put64(%d) = %v, want %v", c.x, b, c.want)
		}
		if x, ok := Get64(c.want); x != c.x || !ok {
			t.Errorf("Get64(%v) = %d, %v, want %d, true", c.want, x, ok, c.x)
		}
	}
}

// P1.3
func TestGet64OfTooFewBytes(t *testing.T) {
	for k := range 8 {
		// Room behind the end must not be taken for bytes.
		b := bytes.Repeat([]byte{255}, 16)[:k]
		if x, ok := Get64(b); x != 0 || ok {
			t.Errorf("Get64(%v) = %d, %v, want 0, false", b, x, ok)
		}
	}
	if x, ok := Get64(nil); x != 0 || ok {
		t.Errorf("Get64(nil) = %d, %v, want 0, false", x, ok)
	}
}

// P1.4
func TestWhatWasPutIsGot(t *testing.T) {
	for _, x := range edges() {
		v, w := PutVar(x), Put64(x)
		for _, tail := range behinds() {
			if y, n := Var(join(v, tail)); y != x || n != len(v) {
				t.Errorf("Var of PutVar(%d) and %v = %d, %d", x, tail, y, n)
			}
			if y, ok := Get64(join(w, tail)); y != x || !ok {
				t.Errorf("Get64 of Put64(%d) and %v = %d, %v", x, tail, y, ok)
			}
		}
		if n := Zag(Zig(int64(x))); n != int64(x) {
			t.Errorf("Zag of Zig(%d) = %d", int64(x), n)
		}
		if u := Zig(Zag(x)); u != x {
			t.Errorf("Zig of Zag(%d) = %d", x, u)
		}
	}
}

// R7: what is handed in is not changed, and each answer is the caller's own.
func TestBytesAreTheCallersOwn(t *testing.T) {
	for _, put := range []func(uint64) []byte{PutVar, Put64} {
		a, b := put(300), put(300)
		for i := range a {
			a[i] = 255
		}
		if bytes.Equal(a, b) || !bytes.Equal(b, put(300)) {
			t.Error("two answers share their bytes")
		}
	}
	in := []byte{172, 2, 3, 4, 5, 6, 7, 8, 9}
	kept := bytes.Clone(in)
	Var(in)
	Get64(in)
	if !bytes.Equal(in, kept) {
		t.Errorf("handed in %v, now %v", kept, in)
	}
}
