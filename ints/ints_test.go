package ints

import (
	"bytes"
	"math"
	"math/big"
	"slices"
	"testing"

	"thresher/api"
	"thresher/num"
)

// edges are the numbers around each power of two, of both signs, and those around both ends.
func edges() []int64 {
	l := []int64{0, math.MaxInt64, math.MinInt64}
	for i := range 64 {
		p := int64(1) << i
		l = append(l, p-1, p, p+1, ^p, -p)
	}
	return l
}

// some are a few of the edges: those at which a number needs a byte more, and the ends.
func some() []int64 {
	l := []int64{0, 1, -1, 300, math.MaxInt64, math.MaxInt64 - 1, math.MinInt64, math.MinInt64 + 1}
	for _, bits := range []int{6, 13, 48, 55, 62} {
		p := int64(1) << bits
		l = append(l, p-1, p, -p, -p-1)
	}
	return l
}

// even is a list of as many numbers as are asked for, each step above the one ahead of it.
func even(count int, step int64) []int64 {
	out := make([]int64, count)
	for i := range out {
		out[i] = int64(i) * step
	}
	return out
}

// lists are columns of all lengths that matter, of near numbers, of far ones, and of both.
func lists() [][]int64 {
	out := [][]int64{nil, edges()}
	for _, a := range edges() {
		out = append(out, []int64{a})
	}
	for _, a := range some() {
		for _, b := range some() {
			out = append(out, []int64{a, b})
			for _, c := range some() {
				out = append(out, []int64{a, b, c})
			}
		}
	}
	for _, count := range []int{4, 63, 127, 128, 129, 300, 1999, api.MaxRows} {
		for _, step := range []int64{0, 1, -1, 63, 64, 1 << 48, -1 << 55, 1 << 62, math.MinInt64, math.MaxInt64} {
			out = append(out, even(count, step))
		}
	}
	return out
}

// modulus is 2^64.
func modulus() *big.Int { return new(big.Int).Lsh(big.NewInt(1), 64) }

// parts is num.PutVar, by division.
func parts(x *big.Int) []byte {
	rest, low := new(big.Int).Set(x), new(big.Int)
	var out []byte
	for {
		rest.DivMod(rest, big.NewInt(128), low)
		if rest.Sign() == 0 {
			return append(out, byte(low.Int64()))
		}
		out = append(out, byte(low.Int64())+128)
	}
}

// fixedByWords is Fixed by the document's words, by division.
func fixedByWords(l []int64) []byte {
	var out []byte
	for _, n := range l {
		rest, low := new(big.Int).Mod(big.NewInt(n), modulus()), new(big.Int)
		for range 8 {
			rest.DivMod(rest, big.NewInt(256), low)
			out = append(out, byte(low.Int64()))
		}
	}
	return out
}

// deltaByWords is Delta by the document's words, in numbers that do not go round.
func deltaByWords(l []int64) []byte {
	half := new(big.Int).Lsh(big.NewInt(1), 63)
	var out []byte
	for i, n := range l {
		far := big.NewInt(n)
		if i > 0 {
			far.Sub(far, big.NewInt(l[i-1]))
		}
		if far.Mod(far, modulus()); far.Cmp(half) >= 0 {
			far.Sub(far, modulus())
		}
		below := far.Sign() < 0
		if far.Mul(far, big.NewInt(2)); below {
			far.Neg(far).Sub(far, big.NewInt(1))
		}
		out = append(out, parts(far)...)
	}
	return out
}

// column is a column's bytes: how many there are, the way, and what is behind it.
func column(count uint64, way byte, rest ...byte) []byte {
	return slices.Concat(num.PutVar(count), []byte{way}, rest)
}

// byWords is Put by the document's words.
func byWords(l []int64) []byte {
	if delta := deltaByWords(l); len(delta) < 8*len(l) {
		return column(uint64(len(l)), 1, delta...)
	}
	return column(uint64(len(l)), 0, fixedByWords(l)...)
}

// none tells whether Take finds nothing in b, and says so.
func none(b []byte) bool {
	l, e := Take(b)
	return len(l) == 0 && e == api.ErrBad
}

// P5.1
func TestFixed(t *testing.T) {
	for _, x := range []struct {
		l    []int64
		want []byte
	}{
		{nil, nil},
		{[]int64{}, nil},
		{[]int64{5}, []byte{5, 0, 0, 0, 0, 0, 0, 0}},
		{[]int64{258, -1}, []byte{2, 1, 0, 0, 0, 0, 0, 0, 255, 255, 255, 255, 255, 255, 255, 255}},
		{[]int64{math.MinInt64}, []byte{0, 0, 0, 0, 0, 0, 0, 128}},
		{[]int64{math.MaxInt64}, []byte{255, 255, 255, 255, 255, 255, 255, 127}},
	} {
		if got := Fixed(x.l); !bytes.Equal(got, x.want) {
			t.Errorf("Fixed(%v) = %v, want %v", x.l, got, x.want)
		}
	}
	for _, l := range lists() {
		if got, want := Fixed(l), fixedByWords(l); !bytes.Equal(got, want) {
			t.Fatalf("Fixed(%v) = %v, want %v", l, got, want)
		}
	}
}

// P5.1
func TestDelta(t *testing.T) {
	for _, x := range []struct {
		l    []int64
		want []byte
	}{
		{nil, nil},
		{[]int64{}, nil},
		{[]int64{0}, []byte{0}},
		{[]int64{5, 6}, []byte{10, 2}},
		{[]int64{6, 5, 5, 7}, []byte{12, 1, 0, 4}},
		{[]int64{-1, -3}, []byte{1, 3}},
		{[]int64{63, 127, 62}, []byte{126, 128, 1, 129, 1}},
		{[]int64{150, 300}, []byte{172, 2, 172, 2}},
		// The step from one end to the other goes round.
		{[]int64{math.MaxInt64, math.MinInt64}, []byte{254, 255, 255, 255, 255, 255, 255, 255, 255, 1, 2}},
		{[]int64{math.MinInt64, math.MaxInt64}, []byte{255, 255, 255, 255, 255, 255, 255, 255, 255, 1, 1}},
		{[]int64{0, math.MinInt64, 0}, []byte{0, 255, 255, 255, 255, 255, 255, 255, 255, 255, 1, 255, 255, 255, 255, 255, 255, 255, 255, 255, 1}},
	} {
		if got := Delta(x.l); !bytes.Equal(got, x.want) {
			t.Errorf("Delta(%v) = %v, want %v", x.l, got, x.want)
		}
	}
	for _, l := range lists() {
		if got, want := Delta(l), deltaByWords(l); !bytes.Equal(got, want) {
			t.Fatalf("Delta(%v) = %v, want %v", l, got, want)
		}
	}
}

// P5.1
func TestPut(t *testing.T) {
	for _, x := range []struct {
		l    []int64
		want []byte
	}{
		// Of no numbers neither way has fewer bytes.
		{nil, []byte{0, 0}},
		{[]int64{}, []byte{0, 0}},
		{[]int64{5, 6}, []byte{2, 1, 10, 2}},
		{[]int64{-1}, []byte{1, 1, 1}},
		// Seven bytes are fewer than eight, eight are not.
		{[]int64{1<<48 - 1}, []byte{1, 1, 254, 255, 255, 255, 255, 255, 127}},
		{[]int64{1 << 48}, []byte{1, 0, 0, 0, 0, 0, 0, 0, 1, 0}},
		{[]int64{-1 << 48}, []byte{1, 1, 255, 255, 255, 255, 255, 255, 127}},
		{[]int64{-1<<48 - 1}, []byte{1, 0, 255, 255, 255, 255, 255, 255, 254, 255}},
		{[]int64{math.MinInt64}, []byte{1, 0, 0, 0, 0, 0, 0, 0, 0, 128}},
		// All of them together say which way is the shorter one.
		{[]int64{math.MinInt64, math.MinInt64}, []byte{2, 1, 255, 255, 255, 255, 255, 255, 255, 255, 255, 1, 0}},
	} {
		if got := Put(x.l); !bytes.Equal(got, x.want) {
			t.Errorf("Put(%v) = %v, want %v", x.l, got, x.want)
		}
	}
	for _, l := range lists() {
		if got, want := Put(l), byWords(l); !bytes.Equal(got, want) {
			t.Fatalf("Put(%v) = %v, want %v", l, got, want)
		}
	}
	// More numbers than a column may have are put too.
	if got := Put(make([]int64, 2001)); !bytes.Equal(got, column(2001, 1, make([]byte, 2001)...)) {
		t.Errorf("2001 numbers are put as %v", got)
	}
}

// P5.1: two numbers whose ways are of the same length, or one byte off.
func TestPutWhereTheWaysAreNear(t *testing.T) {
	for _, x := range []struct {
		l    []int64
		size int
		way  byte
	}{
		{[]int64{1 << 62, 1<<62 + 1<<34}, 10 + 6, wayFixed},
		{[]int64{1 << 62, 1<<62 + 1<<34 - 1}, 10 + 5, wayDelta},
		{[]int64{1 << 62, 1<<62 + 1<<41}, 10 + 7, wayFixed},
		{[]int64{1 << 48, 1 << 49}, 8 + 8, wayFixed},
		{[]int64{1 << 48, 1<<49 - 1}, 8 + 7, wayDelta},
		{[]int64{1 << 55, 1<<55 + 1<<48 - 1}, 9 + 7, wayFixed},
	} {
		if size := len(Delta(x.l)); size != x.size {
			t.Errorf("Delta(%v) has %d bytes, want %d", x.l, size, x.size)
		}
		if way := Put(x.l)[1]; way != x.way {
			t.Errorf("Put(%v) goes the way %d", x.l, way)
		}
	}
}

// P5.2
func TestTake(t *testing.T) {
	for _, x := range []struct {
		b    []byte
		want []int64
	}{
		{[]byte{0, 0}, nil},
		{[]byte{2, 1, 10, 2}, []int64{5, 6}},
		{[]byte{1, 1, 1}, []int64{-1}},
		{[]byte{1, 0, 0, 0, 0, 0, 0, 0, 0, 128}, []int64{math.MinInt64}},
		{[]byte{2, 1, 254, 255, 255, 255, 255, 255, 255, 255, 255, 1, 2}, []int64{math.MaxInt64, math.MinInt64}},
		{column(2000, 1, make([]byte, 2000)...), make([]int64, 2000)},
		{column(2000, 0, Fixed(even(2000, 1<<62))...), even(2000, 1<<62)},
	} {
		if got, e := Take(x.b); e != api.OK || !slices.Equal(got, x.want) {
			t.Errorf("Take(%v) = %v, %d, want %v", x.b, got, e, x.want)
		}
	}
}

// P5.2
func TestTakeOfWhatIsNone(t *testing.T) {
	wide := Fixed([]int64{1 << 62})
	for _, b := range [][]byte{
		nil,
		{},
		{0},
		{1},
		{128},
		{255},
		// No numbers in a way that is not the one.
		{0, 1},
		{0, 2},
		{0, 255},
		// Something behind them.
		{0, 0, 0},
		{1, 1, 10, 2},
		{2, 1, 10, 2, 0},
		column(1, 0, append(wide, 0)...),
		column(1, 0, append(wide, wide...)...),
		// Fewer than are told.
		{1, 0},
		{1, 1},
		{2, 1, 10},
		{1, 1, 138},
		column(1, 0, wide[:7]...),
		column(2, 0, wide...),
		// A way that is none.
		{1, 2, 10},
		{1, 255, 10},
		column(1, 2, wide...),
		column(1, 128, wide...),
		// The longer way, and Delta where both are as long.
		column(1, 0, 5, 0, 0, 0, 0, 0, 0, 0),
		column(1, 0, Fixed([]int64{1<<48 - 1})...),
		column(1, 1, Delta([]int64{1 << 48})...),
		column(1, 1, Delta([]int64{1 << 62})...),
		column(1, 1, Delta([]int64{math.MinInt64})...),
		column(2, 0, Fixed([]int64{math.MinInt64, math.MinInt64})...),
		column(2, 1, Delta([]int64{1 << 48, 1 << 49})...),
		// Numbers in more parts than they need, and beyond 64 bits.
		{128, 0, 0},
		{129, 0, 1, 10},
		{1, 1, 138, 0},
		{2, 1, 138, 0, 2},
		{2, 1, 10, 130, 0},
		slices.Concat([]byte{2, 1, 2}, bytes.Repeat([]byte{255}, 9), []byte{2}),
		slices.Concat([]byte{2, 1}, bytes.Repeat([]byte{255}, 9), []byte{2, 2}),
		slices.Concat([]byte{2, 1}, bytes.Repeat([]byte{255}, 20)),
		slices.Concat(bytes.Repeat([]byte{128}, 9), []byte{2, 0}),
		bytes.Repeat([]byte{255}, 30),
	} {
		if !none(b) {
			t.Errorf("%v is a column", b)
		}
	}
}

// P5.2
func TestTakeOfTooMany(t *testing.T) {
	for _, count := range []int{2001, 2002, 2048, 4000} {
		if !none(Put(make([]int64, count))) || !none(Put(even(count, 1<<62))) {
			t.Errorf("%d numbers are a column", count)
		}
	}
	// Counts of which a part of the bits would do are not cut down to it, and no room is made for them.
	for _, count := range []uint64{1<<32 + 1, 1<<32 + 2000, 1 << 62, 1 << 63, 1<<63 + 1, math.MaxUint64} {
		for _, rest := range [][]byte{nil, {10}, Fixed([]int64{1 << 62}), make([]byte, 2000)} {
			if !none(column(count, 0, rest...)) || !none(column(count, 1, rest...)) {
				t.Errorf("%d numbers are a column", count)
			}
		}
	}
	if !none(column(1<<61, 0)) || !none(column(1<<61+1, 0, Fixed([]int64{1 << 62})...)) {
		t.Error("a count whose bytes go round is a column")
	}
}

// P5.2: of three bytes there are the columns of one number alone, of two that of none.
func TestTakeOfFewBytes(t *testing.T) {
	for a := range 256 {
		for b := range 256 {
			if l, e := Take([]byte{byte(a), byte(b)}); (e == api.OK) != (a == 0 && b == 0) || len(l) != 0 {
				t.Fatalf("Take(%d, %d) = %v, %d", a, b, l, e)
			}
			for c := range 256 {
				in := []byte{byte(a), byte(b), byte(c)}
				if a != 1 || b != 1 || c >= 128 {
					if !none(in) {
						t.Fatalf("%v is a column", in)
					}
					continue
				}
				want := int64(c / 2)
				if c%2 == 1 {
					want = -int64(c+1) / 2
				}
				if l, e := Take(in); e != api.OK || !slices.Equal(l, []int64{want}) {
					t.Fatalf("Take(%v) = %v, %d", in, l, e)
				}
			}
		}
	}
}

// P5.2: what is taken of bytes that are near a column's is put as these, or there is none.
func TestTakeOfOneByteChanged(t *testing.T) {
	for _, l := range [][]int64{nil, {5, 6}, {-1}, {1 << 48}, {1<<48 - 1}, {math.MinInt64}, {math.MaxInt64, math.MinInt64}, {1 << 62, 1<<62 + 1<<34}, even(130, 1), even(20, 1<<62)} {
		b := Put(l)
		for i := range b {
			if !none(b[:i]) {
				t.Errorf("the first %d bytes of %v are a column", i, l)
			}
			for c := range 256 {
				changed := slices.Clone(b)
				changed[i] = byte(c)
				got, e := Take(changed)
				may := e == api.OK && bytes.Equal(byWords(got), changed)
				if !may && !none(changed) || may && c != int(b[i]) && slices.Equal(got, l) {
					t.Errorf("%v with %d at %d: %v, %d", l, c, i, got, e)
				}
			}
		}
		for c := range 256 {
			if !none(append(slices.Clone(b), byte(c))) {
				t.Errorf("%v with %d behind it is a column", l, c)
			}
		}
	}
}

// P5.3
func TestWhatWasPutIsTaken(t *testing.T) {
	for _, l := range lists() {
		got, e := Take(Put(l))
		if e != api.OK || !slices.Equal(got, l) {
			t.Fatalf("%v is taken as %v, %d", l, got, e)
		}
	}
	for count := range api.MaxRows + 1 {
		for _, step := range []int64{1, 1 << 62} {
			l := even(count, step)
			if got, e := Take(Put(l)); e != api.OK || !slices.Equal(got, l) {
				t.Fatalf("%d numbers are taken as %v, %d", count, got, e)
			}
		}
	}
}

// P5.3
func TestNoMoreThanEightBytesANumber(t *testing.T) {
	for _, l := range lists() {
		head := len(num.PutVar(uint64(len(l)))) + 1
		size := len(Put(l)) - head
		if size > 8*len(l) || size > len(Delta(l)) {
			t.Fatalf("%v has %d bytes", l, size)
		}
	}
	// The bound is reached, and numbers near each other stay far below it.
	if size := len(Put(even(2000, 1<<62))); size != 2+1+8*2000 {
		t.Errorf("2000 numbers far from each other have %d bytes", size)
	}
	if size := len(Put(even(2000, 63))); size != 2+1+2000 {
		t.Errorf("2000 numbers near each other have %d bytes", size)
	}
}

// R7
func TestNothingIsShared(t *testing.T) {
	for _, l := range [][]int64{{5, 6}, {1 << 62, -1 << 62}} {
		kept := slices.Clone(l)
		fixed, delta, put := Fixed(l), Delta(l), Put(l)
		bytesKept := slices.Clone(put)
		one, _ := Take(put)
		two, _ := Take(put)
		if !slices.Equal(l, kept) || !bytes.Equal(put, bytesKept) {
			t.Error("what is handed in is changed")
		}
		clear(fixed)
		clear(delta)
		clear(put)
		clear(two)
		if !slices.Equal(l, kept) || !slices.Equal(one, kept) || !bytes.Equal(Put(l), bytesKept) {
			t.Error("what was told changes")
		}
	}
}
