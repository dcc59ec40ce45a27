package block

import (
	"bytes"
	"hash/crc32"
	"math"
	"slices"
	"strconv"
	"strings"
	"testing"

	"thresher/api"
	"thresher/ints"
	"thresher/num"
	"thresher/texts"
)

// types are all that there are.
func types() []int { return []int{1, 2, 3} }

// noTypes are numbers that are no type; the lowest byte of some is one.
func noTypes() []int {
	return []int{0, 4, 5, 127, 128, 255, 256, 257, 258, 259, 1<<16 + 1, 1<<32 + 2, 1<<32 + 3, -1, -2, -3, -253, -254, -255, math.MaxInt, math.MinInt, math.MinInt + 1}
}

// long is a text of as many bytes as are asked for.
func long(size int) string { return strings.Repeat("x", size) }

// numbers and words are values of the numbers, and of the texts.
func numbers(l ...int64) []api.Value {
	var out []api.Value
	for _, n := range l {
		out = append(out, api.Value{N: n})
	}
	return out
}

func words(l ...string) []api.Value {
	var out []api.Value
	for _, s := range l {
		out = append(out, api.Value{S: s})
	}
	return out
}

// column is a value of a type, count times, each unlike the one ahead of it.
func column(t, count int) []api.Value {
	var out []api.Value
	for i := range count {
		if t == api.Text {
			out = append(out, api.Value{S: strconv.Itoa(i%130) + long(i%50)})
		} else {
			out = append(out, api.Value{N: int64(i) * int64(i%7) << (i % 60)})
		}
	}
	return out
}

// columns are columns of a type: of all lengths that matter, and of the values at its edges.
func columns(t int) [][]api.Value {
	out := [][]api.Value{nil, {}, {{}}, {{}, {}}}
	some := numbers(0, 1, -1, 5, 63, 64, -64, -65, math.MaxInt32, math.MaxInt64, math.MinInt64, math.MinInt64+1)
	if t == api.Text {
		some = words("", "a", "A", "ab", "a\x00", "\x00", "\xff", "\x80", "\u00e9", "0", "\x01a", long(59), long(60))
	}
	for _, a := range some {
		out = append(out, []api.Value{a})
		for _, b := range some {
			out = append(out, []api.Value{a, b}, []api.Value{a, b, a, b, b, a})
		}
	}
	for _, count := range []int{3, 13, 14, 15, 62, 63, 64, 121, 122, 127, 128, 129, 300, 1999, 2000} {
		out = append(out, column(t, count), make([]api.Value, count), slices.Repeat(some[len(some)-1:], count))
	}
	return out
}

// framed is crc.Frame by the document's words.
func framed(data string) []byte {
	x := crc32.ChecksumIEEE([]byte(data))
	return slices.Concat(num.PutVar(uint64(len(data))), []byte{byte(x), byte(x >> 8), byte(x >> 16), byte(x >> 24)}, []byte(data))
}

// byWords is Put by the document's words, of values that may be put.
func byWords(t int, l []api.Value) []byte {
	var ns []int64
	var ss []string
	for _, v := range l {
		ns = append(ns, v.N)
		ss = append(ss, v.S)
	}
	if t == 3 {
		return framed("\x03" + string(texts.Put(ss)))
	}
	return framed(string([]byte{byte(t)}) + string(ints.Put(ns)))
}

// isPut tells whether the values are put, as wanted.
func isPut(t int, l []api.Value, want []byte) bool {
	b, ok := Put(t, l)
	return ok && bytes.Equal(b, want)
}

// isTaken tells whether the values are taken of b, and how many bytes they have is told.
func isTaken(t int, b []byte, l []api.Value, size int) bool {
	got, n, e := Take(t, b)
	return e == api.OK && n == size && slices.Equal(got, l)
}

// isTold tells whether nothing is taken of b, and this error is told.
func isTold(t int, b []byte, want api.Errno) bool {
	got, n, e := Take(t, b)
	return e == want && n == 0 && len(got) == 0
}

// P7.1
func TestPut(t *testing.T) {
	for _, x := range []struct {
		t    int
		l    []api.Value
		data string
	}{
		{api.Int, nil, "\x01\x00\x00"},
		{api.Int, []api.Value{}, "\x01\x00\x00"},
		{api.Uint, nil, "\x02\x00\x00"},
		{api.Text, nil, "\x03\x00\x00"},
		{api.Text, []api.Value{}, "\x03\x00\x00"},
		{api.Int, numbers(0), "\x01\x01\x01\x00"},
		{api.Int, numbers(5, 6), "\x01\x02\x01\x0a\x02"},
		{api.Uint, numbers(5, 6), "\x02\x02\x01\x0a\x02"},
		{api.Int, numbers(6, 5), "\x01\x02\x01\x0c\x01"},
		// Uint is put by its bits, as Int is.
		{api.Int, numbers(-1), "\x01\x01\x01\x01"},
		{api.Uint, numbers(-1), "\x02\x01\x01\x01"},
		{api.Int, numbers(math.MinInt64), "\x01\x01\x00\x00\x00\x00\x00\x00\x00\x00\x80"},
		{api.Uint, numbers(math.MinInt64), "\x02\x01\x00\x00\x00\x00\x00\x00\x00\x00\x80"},
		{api.Uint, numbers(math.MaxInt64, math.MinInt64), "\x02\x02\x01\xfe\xff\xff\xff\xff\xff\xff\xff\xff\x01\x02"},
		{api.Text, words(""), "\x03\x01\x00\x00"},
		{api.Text, words("a"), "\x03\x01\x00\x01a"},
		{api.Text, words("a", "b"), "\x03\x02\x00\x01a\x01b"},
		{api.Text, words("abc", "abc"), "\x03\x02\x01\x01\x03abc\x00\x00"},
		{api.Text, words("\xff\x00\x80"), "\x03\x01\x00\x03\xff\x00\x80"},
		{api.Text, words(long(60)), "\x03\x01\x00\x3c" + long(60)},
		{api.Int, make([]api.Value, 2000), "\x01\xd0\x0f\x01" + strings.Repeat("\x00", 2000)},
		{api.Text, make([]api.Value, 2000), "\x03\xd0\x0f\x00" + strings.Repeat("\x00", 2000)},
	} {
		if b, ok := Put(x.t, x.l); !ok || !bytes.Equal(b, framed(x.data)) {
			t.Errorf("Put(%d, %v) = %q, %t, want %q", x.t, x.l, b, ok, framed(x.data))
		}
	}
	if !isPut(api.Int, nil, []byte("\x03\x25\xb3\x83\xfe\x01\x00\x00")) {
		t.Error("no values of Int are put otherwise")
	}
	for _, kind := range types() {
		for _, l := range columns(kind) {
			if !isPut(kind, l, byWords(kind, l)) {
				t.Fatalf("Put(%d, %v) is another one", kind, l)
			}
		}
	}
}

// P7.1
func TestPutOfNoType(t *testing.T) {
	for _, kind := range noTypes() {
		for _, l := range [][]api.Value{nil, {}, {{}}, numbers(1), words("a"), make([]api.Value, 2000), make([]api.Value, 2001)} {
			if b, ok := Put(kind, l); ok || len(b) != 0 {
				t.Errorf("Put(%d, %d values) = %q, %t", kind, len(l), b, ok)
			}
		}
	}
}

// P7.1
func TestPutOfWhatDoesNotFit(t *testing.T) {
	for _, kind := range types() {
		wrong := []api.Value{{S: "a"}, {S: "\x00"}, {S: long(60)}, {S: long(61)}, {N: 1, S: "a"}, {N: -1, S: "0"}}
		if kind == api.Text {
			wrong = []api.Value{{N: 1}, {N: -1}, {N: math.MinInt64}, {N: 1 << 32}, {N: 1, S: "a"}, {S: long(61)}, {S: long(128)}, {S: long(1000)}, {N: 1, S: long(61)}}
		}
		for _, v := range wrong {
			for _, count := range []int{1, 2, 3, 64, 2000} {
				for _, place := range []int{0, count / 2, count - 1} {
					l := column(kind, count)
					l[place] = v
					if b, ok := Put(kind, l); ok || len(b) != 0 {
						t.Errorf("%v at %d of %d of type %d is put: %q, %t", v, place, count, kind, b, ok)
					}
				}
			}
		}
	}
}

// P7.1
func TestPutOfTooMany(t *testing.T) {
	for _, kind := range types() {
		if !isPut(kind, column(kind, 2000), byWords(kind, column(kind, 2000))) {
			t.Errorf("2000 values of type %d are not put", kind)
		}
		for _, count := range []int{2001, 2002, 2048, 4000, 1 << 16, 1<<16 + 1} {
			for _, l := range [][]api.Value{make([]api.Value, count), column(kind, count)} {
				if b, ok := Put(kind, l); ok || len(b) != 0 {
					t.Errorf("%d values of type %d are put", count, kind)
				}
			}
		}
	}
}

// P7.2
func TestTake(t *testing.T) {
	for _, x := range []struct {
		t    int
		data string
		want []api.Value
	}{
		{api.Int, "\x01\x00\x00", nil},
		{api.Uint, "\x02\x00\x00", nil},
		{api.Text, "\x03\x00\x00", nil},
		{api.Int, "\x01\x02\x01\x0a\x02", numbers(5, 6)},
		{api.Uint, "\x02\x02\x01\x0a\x02", numbers(5, 6)},
		{api.Uint, "\x02\x01\x01\x01", numbers(-1)},
		{api.Int, "\x01\x01\x00\x00\x00\x00\x00\x00\x00\x00\x80", numbers(math.MinInt64)},
		{api.Text, "\x03\x01\x00\x00", words("")},
		{api.Text, "\x03\x01\x00\x01a", words("a")},
		{api.Text, "\x03\x02\x01\x01\x03abc\x00\x00", words("abc", "abc")},
		{api.Text, "\x03\x01\x00\x3c" + long(60), words(long(60))},
		{api.Int, "\x01\xd0\x0f\x01" + strings.Repeat("\x00", 2000), make([]api.Value, 2000)},
		{api.Text, "\x03\xd0\x0f\x00" + strings.Repeat("\x00", 2000), make([]api.Value, 2000)},
	} {
		b := framed(x.data)
		for _, behind := range []string{"", "\x00", "\x01", "abc", string(b)} {
			if !isTaken(x.t, append(slices.Clone(b), behind...), x.want, len(b)) {
				t.Errorf("of %q with %q behind it not %v is taken", b, behind, x.want)
			}
		}
	}
}

// P7.2
func TestTakeOfAnotherType(t *testing.T) {
	for _, kind := range types() {
		for _, l := range [][]api.Value{nil, {{}}, column(kind, 1), column(kind, 3), column(kind, 300)} {
			b := byWords(kind, l)
			for _, other := range slices.Concat(types(), noTypes()) {
				if other != kind && !isTold(other, b, api.ErrBad) {
					t.Errorf("%d values of type %d are taken as of type %d", len(l), kind, other)
				}
			}
		}
	}
	// A byte that is no type is none, whatever is asked for.
	for _, kind := range slices.Concat(types(), noTypes()) {
		for c := range 256 {
			for _, rest := range []string{"", "\x00\x00", "\x01\x01\x00", "\x01\x00\x00"} {
				isOne := c == kind && (rest == "\x00\x00" || kind == 3 && rest == "\x01\x00\x00" || kind < 3 && rest == "\x01\x01\x00") && c >= 1 && c <= 3
				if b := framed(string([]byte{byte(c)}) + rest); isOne == isTold(kind, b, api.ErrBad) {
					t.Errorf("of %d with %q as type %d: %t", c, rest, kind, !isOne)
				}
			}
		}
	}
}

// P7.2
func TestTakeOfWhatIsNone(t *testing.T) {
	for _, s := range []string{
		// Nothing, not even a type; and a type alone.
		"",
		"\x01",
		"\x02",
		"\x03",
		"\x01\x00",
		"\x03\x00",
		// No type.
		"\x00\x00\x00",
		"\x04\x00\x00",
		"\xff\x00\x00",
		"\x00\x01\x01\x00",
		// No values in a way that is not the one.
		"\x01\x00\x01",
		"\x03\x00\x01\x00",
		// Something behind them, within the frame.
		"\x01\x00\x00\x00",
		"\x02\x01\x01\x00\x00",
		"\x02\x02\x01\x0a\x02\x02",
		"\x03\x00\x00\x00",
		"\x03\x01\x00\x01ab",
		// Fewer than are told.
		"\x01\x01\x01",
		"\x02\x02\x01\x0a",
		"\x02\x01\x00\x00\x00\x00\x00\x00\x00\x00",
		"\x03\x01\x00",
		"\x03\x01\x00\x02a",
		// The longer way.
		"\x01\x01\x00\x05\x00\x00\x00\x00\x00\x00\x00",
		"\x01\x01\x01\xff\xff\xff\xff\xff\xff\xff\xff\xff\x01",
		"\x03\x01\x01\x01\x01a\x00",
		"\x03\x02\x00\x03abc\x03abc",
		// Too many, or one that is too long.
		"\x01\xd1\x0f\x01" + strings.Repeat("\x00", 2001),
		"\x02\xd1\x0f\x01" + strings.Repeat("\x00", 2001),
		"\x03\xd1\x0f\x00" + strings.Repeat("\x00", 2001),
		"\x03\x01\x00\x3d" + long(61),
		// What is a column, without a type ahead of it; and two of them.
		"\x00\x00",
		"\x02\x01\x0a\x02",
		"\x01\x01\x02\x01\x0a\x02",
		"\x01\x00\x00\x01\x00\x00",
		strings.Repeat("\xff", 30),
		strings.Repeat("\x01", api.MaxBytes),
	} {
		for _, kind := range []int{-1, 0, 1, 2, 3, 4, 255, 256, 257} {
			if !isTold(kind, framed(s), api.ErrBad) {
				t.Errorf("of %.50q something is taken as of type %d", s, kind)
			}
		}
	}
}

// P7.2
func TestTakeOfWhatIsNoFrame(t *testing.T) {
	for _, s := range []string{
		"",
		"\x03",
		"\x03\x25\xb3\x83\xfe\x01\x00",
		"\x80",
		"\x83\x00\x25\xb3\x83\xfe\x01\x00\x00",
		"\x80\x80\x80\x80\x80\x80\x80\x80\x80\x02\x25\xb3\x83\xfe\x01\x00\x00",
		strings.Repeat("\xff", 30),
		// More than there are, and more than there may be.
		"\x04\x25\xb3\x83\xfe\x01\x00\x00",
		string(num.PutVar(math.MaxUint64)) + long(30),
		string(num.PutVar(1<<32+3)) + "\x25\xb3\x83\xfe\x01\x00\x00",
		string(framed(strings.Repeat("\x01", api.MaxBytes+1))),
	} {
		for _, kind := range slices.Concat(types(), noTypes()) {
			if !isTold(kind, []byte(s), api.ErrBad) {
				t.Errorf("of %.50q something is taken as of type %d", s, kind)
			}
		}
	}
	if !isTold(api.Int, nil, api.ErrBad) {
		t.Error("nil is a block")
	}
}

// P7.2: the frame's error is told ahead of what is wrong within it.
func TestTakeOfWrongSums(t *testing.T) {
	for _, data := range []string{"", "\x01", "\x01\x00\x00", "\x02\x02\x01\x0a\x02", "\x03\x01\x00\x01a", "\x04\x00\x00", "\x01\x01\x01\x00\x00", "\x03\x01\x00\x3d" + long(61)} {
		for i := 1; i < 5; i++ {
			b := framed(data)
			b[i]++
			for _, kind := range slices.Concat(types(), noTypes()) {
				if !isTold(kind, b, api.ErrSum) || !isTold(kind, append(b, 9), api.ErrSum) {
					t.Errorf("the wrong sum of %.50q is not told of type %d", data, kind)
				}
			}
		}
	}
}

// taken is what the document's words say of a frame of data: the values, if there are some.
func taken(t int, data []byte) ([]api.Value, bool) {
	if len(data) == 0 || int(data[0]) != t {
		return nil, false
	}
	if t == 3 {
		l, e := texts.Take(data[1:])
		return words(l...), e == api.OK
	}
	l, e := ints.Take(data[1:])
	return numbers(l...), e == api.OK && (t == 1 || t == 2)
}

// P7.2: of a frame of seven bytes below 5, or fewer, that is taken of which the document speaks, and no other.
func TestTakeOfFewBytes(t *testing.T) {
	found := 0
	work := [][]byte{nil}
	for len(work) > 0 {
		data := work[len(work)-1]
		work = work[:len(work)-1]
		b := framed(string(data))
		for kind := range 5 {
			l, is := taken(kind, data)
			if is && (!isTaken(kind, b, l, len(b)) || !isPut(kind, l, b)) || !is && !isTold(kind, b, api.ErrBad) {
				t.Fatalf("of a frame of %v not %v is taken as of type %d", data, l, kind)
			}
			if is {
				found++
			}
		}
		for c := range 5 {
			if len(data) < 7 {
				work = append(work, append(slices.Clone(data), byte(c)))
			}
		}
	}
	if found < 1000 {
		t.Errorf("%d blocks alone are found", found)
	}
}

// P7.3
func TestWhatWasPutIsTaken(t *testing.T) {
	for _, kind := range types() {
		for _, l := range columns(kind) {
			b, ok := Put(kind, l)
			if !ok {
				t.Fatalf("%v of type %d are not put", l, kind)
			}
			for _, behind := range [][]byte{nil, {0}, {1, 2, 3}, {255, 255, 255, 255, 255, 255, 255, 255, 255, 255}, b} {
				if !isTaken(kind, slices.Concat(b, behind), l, len(b)) {
					t.Fatalf("%v of type %d with %v behind it are taken otherwise", l, kind, behind)
				}
			}
		}
		for count := 0; count <= api.MaxRows; count += 1 + count/20 {
			l := column(kind, count)
			b, _ := Put(kind, l)
			if !isTaken(kind, b, l, len(b)) {
				t.Fatalf("%d values of type %d are taken otherwise", count, kind)
			}
		}
	}
}

// P7.3: blocks of all types, one behind the other, are taken one by one.
func TestBlocksInARow(t *testing.T) {
	var all []byte
	for _, kind := range types() {
		for _, count := range []int{0, 1, 64, 300} {
			b, _ := Put(kind, column(kind, count))
			all = append(all, b...)
		}
	}
	for _, kind := range types() {
		for _, count := range []int{0, 1, 64, 300} {
			l, n, e := Take(kind, all)
			if e != api.OK || !slices.Equal(l, column(kind, count)) {
				t.Fatalf("%d values of type %d: %v, %d", count, kind, l, e)
			}
			all = all[n:]
		}
	}
	if len(all) != 0 {
		t.Errorf("%d bytes are left", len(all))
	}
}

// wide is the largest block that there is: its texts are unlike, and as long as they may be.
func wide() []api.Value {
	var out []api.Value
	for i := range 2000 {
		s := strconv.Itoa(i)
		out = append(out, api.Value{S: s + long(60-len(s))})
	}
	return out
}

// P7.3
func TestTheLargestIsTaken(t *testing.T) {
	b, ok := Put(api.Text, wide())
	if size := 3 + 4 + 1 + 2 + 1 + 2000*61; !ok || len(b) != size || !isTaken(api.Text, b, wide(), size) {
		t.Errorf("the largest block has %d bytes", len(b))
	}
}

// P7.3
func TestBitsThatAreTurnedAreTold(t *testing.T) {
	for _, kind := range types() {
		for _, l := range [][]api.Value{nil, {{}}, column(kind, 2), column(kind, 20), column(kind, 50)} {
			b, _ := Put(kind, l)
			head := len(num.PutVar(uint64(len(b) - 5)))
			for bit := range 8 * len(b) {
				for _, behind := range [][]byte{nil, make([]byte, 300), b} {
					turned := slices.Concat(b, behind)
					turned[bit/8] ^= 1 << (bit % 8)
					got, n, e := Take(kind, turned)
					// Where the length is another one, there may be too few bytes for it.
					told := e == api.ErrSum || bit/8 < head && e == api.ErrBad
					if !told || n != 0 || len(got) != 0 {
						t.Fatalf("bit %d of %v of type %d is turned: %v, %d, %d", bit, l, kind, got, n, e)
					}
				}
			}
		}
	}
}

// P7.3: up to 32 bits in a row change the sum.
func TestBitsInARowThatAreTurnedAreTold(t *testing.T) {
	for _, kind := range types() {
		b, _ := Put(kind, column(kind, 9))
		for first := 8; first < 8*len(b); first++ {
			for _, pattern := range []uint32{3, 5, 1<<8 - 1, 1<<16 - 1, 1<<31 + 1, math.MaxUint32, 0xEDB88321, 0x9D3C0B11} {
				turned := slices.Clone(b)
				for i := range 32 {
					if at := first + i; pattern>>i&1 == 1 && at < 8*len(b) {
						turned[at/8] ^= 1 << (at % 8)
					}
				}
				if !isTold(kind, turned, api.ErrSum) {
					t.Fatalf("%x from bit %d on is turned, of type %d", pattern, first, kind)
				}
			}
		}
	}
}

// P7.3: a block that ends too soon is told.
func TestTheBeginningOfABlockIsNone(t *testing.T) {
	for _, kind := range types() {
		for _, l := range [][]api.Value{nil, {{}}, column(kind, 2), column(kind, 130)} {
			b, _ := Put(kind, l)
			for n := range b {
				// What stands behind the slice's end is not of it.
				if !isTold(kind, b[:n], api.ErrBad) || !isTold(kind, slices.Clone(b[:n]), api.ErrBad) {
					t.Errorf("the first %d bytes of %v of type %d are a block", n, l, kind)
				}
			}
		}
	}
}

// R6, R7
func TestNothingIsShared(t *testing.T) {
	for _, kind := range types() {
		l := column(kind, 20)
		put, _ := Put(kind, l)
		kept := slices.Clone(put)
		one, _, _ := Take(kind, put)
		two, _, _ := Take(kind, put)
		if !slices.Equal(l, column(kind, 20)) || !bytes.Equal(put, kept) {
			t.Error("what is handed in is changed")
		}
		clear(put)
		clear(two)
		if !slices.Equal(l, column(kind, 20)) || !slices.Equal(one, l) || !isPut(kind, l, kept) {
			t.Error("what was told changes")
		}
	}
}
