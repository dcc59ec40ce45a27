package texts

import (
	"bytes"
	"math"
	"slices"
	"strconv"
	"strings"
	"testing"

	"thresher/api"
	"thresher/num"
)

// long is a text of as many bytes as are asked for.
func long(size int) string { return strings.Repeat("x", size) }

// again is count texts: one of the kinds that there are after the other, each of size bytes or a few more.
func again(count, kinds, size int) []string {
	out := make([]string, count)
	for i := range out {
		out[i] = strconv.Itoa(i%kinds) + long(max(0, size-4))
	}
	return out
}

// some are texts near each other, of bytes of all kinds, and of the lengths that matter.
func some() []string {
	return []string{"", "a", "A", "ab", "abc", "a\x00", "\x00", "\x00a", "\xff", "\xc3\xa9", "e\u0301", "\x80", "0", "1", "\x01a", long(59), long(60), long(59) + "y"}
}

// lists are columns of all lengths that matter, of unlike texts, of like ones, and of both.
func lists() [][]string {
	out := [][]string{nil, {}, some()}
	for _, a := range some() {
		out = append(out, []string{a})
		for _, b := range some() {
			out = append(out, []string{a, b})
			for _, c := range some() {
				out = append(out, []string{a, b, c}, []string{a, b, c, a, c, b, b})
			}
		}
	}
	for _, count := range []int{4, 127, 128, 129, 130, 257, 300, 1999, api.MaxRows} {
		for _, kinds := range []int{1, 2, 3, 127, 128, 129, 130, count - 1, count} {
			for _, size := range []int{1, 60} {
				out = append(out, again(count, kinds, size))
			}
		}
		out = append(out, make([]string, count))
	}
	return out
}

// parts is num.PutVar, by division.
func parts(x int) []byte {
	var out []byte
	for ; x > 127; x /= 128 {
		out = append(out, byte(x%128+128))
	}
	return append(out, byte(x))
}

// eachByWords is Each by the document's words.
func eachByWords(l []string) []byte {
	var out []byte
	for _, s := range l {
		out = append(append(out, parts(len(s))...), s...)
	}
	return out
}

// dictByWords is Dict by the document's words: each text is held against those ahead of it.
func dictByWords(l []string) []byte {
	var unlike []string
	for _, s := range l {
		if !slices.Contains(unlike, s) {
			unlike = append(unlike, s)
		}
	}
	out := append(parts(len(unlike)), eachByWords(unlike)...)
	for _, s := range l {
		out = append(out, parts(slices.Index(unlike, s))...)
	}
	return out
}

// column is a column's bytes: how many there are, the way, and what is behind it.
func column(count uint64, way byte, rest ...byte) []byte {
	return slices.Concat(num.PutVar(count), []byte{way}, rest)
}

// byWords is Put by the document's words.
func byWords(l []string) []byte {
	each, dict := eachByWords(l), dictByWords(l)
	if len(dict) < len(each) {
		return column(uint64(len(l)), 1, dict...)
	}
	return column(uint64(len(l)), 0, each...)
}

// none tells whether Take finds nothing in b, and says so.
func none(b []byte) bool {
	l, e := Take(b)
	return len(l) == 0 && e == api.ErrBad
}

// P6.1
func TestEach(t *testing.T) {
	for _, x := range []struct {
		l    []string
		want string
	}{
		{nil, ""},
		{[]string{}, ""},
		{[]string{""}, "\x00"},
		{[]string{"", ""}, "\x00\x00"},
		{[]string{"abc", "", "abc", "b"}, "\x03abc\x00\x03abc\x01b"},
		// A text is bytes, whatever they are.
		{[]string{"\x00", "\xff\x80", "\u00e9"}, "\x01\x00\x02\xff\x80\x02\xc3\xa9"},
		{[]string{long(60)}, "\x3c" + long(60)},
		// Longer ones than a column may have are put too.
		{[]string{long(61)}, "\x3d" + long(61)},
		{[]string{long(127), long(128)}, "\x7f" + long(127) + "\x80\x01" + long(128)},
		{[]string{long(300)}, "\xac\x02" + long(300)},
	} {
		if got := Each(x.l); string(got) != x.want {
			t.Errorf("Each(%q) = %q, want %q", x.l, got, x.want)
		}
	}
	for _, l := range lists() {
		if got, want := Each(l), eachByWords(l); !bytes.Equal(got, want) {
			t.Fatalf("Each(%q) = %q, want %q", l, got, want)
		}
	}
}

// P6.1
func TestDict(t *testing.T) {
	for _, x := range []struct {
		l    []string
		want string
	}{
		{nil, "\x00"},
		{[]string{}, "\x00"},
		{[]string{""}, "\x01\x00\x00"},
		{[]string{"a"}, "\x01\x01a\x00"},
		{[]string{"abc", "abc"}, "\x01\x03abc\x00\x00"},
		// In the order in which they come first, not in their own.
		{[]string{"b", "a", "b", "", "a"}, "\x03\x01b\x01a\x00\x00\x01\x00\x02\x01"},
		// Texts that one byte sets apart are unlike.
		{[]string{"a", "A", "a\x00", "a", "a\x00"}, "\x03\x01a\x01A\x02a\x00\x00\x01\x02\x00\x02"},
		{[]string{"\xff", "\xfe", "\xff"}, "\x02\x01\xff\x01\xfe\x00\x01\x00"},
		{[]string{"\u00e9", "e\u0301", "\u00e9"}, "\x02\x02\xc3\xa9\x03e\xcc\x81\x00\x01\x00"},
		{[]string{long(128), long(128)}, "\x01\x80\x01" + long(128) + "\x00\x00"},
	} {
		if got := Dict(x.l); string(got) != x.want {
			t.Errorf("Dict(%q) = %q, want %q", x.l, got, x.want)
		}
	}
	for _, l := range lists() {
		if got, want := Dict(l), dictByWords(l); !bytes.Equal(got, want) {
			t.Fatalf("Dict(%q) = %q, want %q", l, got, want)
		}
	}
	// A place from 128 on, and how many there are, have two bytes.
	if got := Dict(again(130, 129, 1)); !bytes.HasPrefix(got, []byte{129, 1, 1, '0'}) || !bytes.HasSuffix(got, []byte{126, 127, 128, 1, 0}) {
		t.Errorf("Dict of 129 unlike texts is %q", got)
	}
}

// P6.1
func TestPut(t *testing.T) {
	for _, x := range []struct {
		l    []string
		want string
	}{
		// Of no texts Each has fewer bytes.
		{nil, "\x00\x00"},
		{[]string{}, "\x00\x00"},
		{[]string{""}, "\x01\x00\x00"},
		{[]string{"abc"}, "\x01\x00\x03abc"},
		{[]string{"a", "b"}, "\x02\x00\x01a\x01b"},
		{[]string{"", "", "", ""}, "\x04\x00\x00\x00\x00\x00"},
		// Seven bytes are fewer than eight; six are not fewer than six.
		{[]string{"abc", "abc"}, "\x02\x01\x01\x03abc\x00\x00"},
		{[]string{"ab", "ab"}, "\x02\x00\x02ab\x02ab"},
		{[]string{"a", "a"}, "\x02\x00\x01a\x01a"},
		{[]string{"a", "a", "a"}, "\x03\x00\x01a\x01a\x01a"},
		{[]string{"a", "a", "a", "a"}, "\x04\x01\x01\x01a\x00\x00\x00\x00"},
		{[]string{"key1", "key2", "key1", "key2"}, "\x04\x01\x02\x04key1\x04key2\x00\x01\x00\x01"},
		// All of them together say which way is the shorter one.
		{[]string{"", "abcdef", "b", "abcdef"}, "\x04\x01\x03\x00\x06abcdef\x01b\x00\x01\x02\x01"},
		{[]string{"", "abcd", "b", "abcd"}, "\x04\x00\x00\x04abcd\x01b\x04abcd"},
		// Longer ones than a column may have are put too.
		{[]string{long(61)}, "\x01\x00\x3d" + long(61)},
		{[]string{long(200), long(200)}, "\x02\x01\x01\xc8\x01" + long(200) + "\x00\x00"},
	} {
		if got := Put(x.l); string(got) != x.want {
			t.Errorf("Put(%q) = %q, want %q", x.l, got, x.want)
		}
	}
	for _, l := range lists() {
		if got, want := Put(l), byWords(l); !bytes.Equal(got, want) {
			t.Fatalf("Put(%q) = %q, want %q", l, got, want)
		}
	}
	// So are more texts than a column may have.
	if got := Put(make([]string, 2001)); !bytes.Equal(got, column(2001, 0, make([]byte, 2001)...)) {
		t.Errorf("2001 texts are put as %q", got)
	}
}

// P6.2
func TestTake(t *testing.T) {
	for _, x := range []struct {
		b    string
		want []string
	}{
		{"\x00\x00", nil},
		{"\x01\x00\x00", []string{""}},
		{"\x02\x00\x01a\x01b", []string{"a", "b"}},
		{"\x02\x00\x02ab\x02ab", []string{"ab", "ab"}},
		{"\x02\x01\x01\x03abc\x00\x00", []string{"abc", "abc"}},
		{"\x04\x01\x02\x04key1\x04key2\x00\x01\x00\x01", []string{"key1", "key2", "key1", "key2"}},
		{"\x02\x00\x02\xff\x00\x01\x80", []string{"\xff\x00", "\x80"}},
		{"\x01\x00\x3c" + long(60), []string{long(60)}},
		{"\x02\x01\x01\x3c" + long(60) + "\x00\x00", []string{long(60), long(60)}},
		{"\xd0\x0f\x00" + strings.Repeat("\x00", 2000), make([]string, 2000)},
		{"\xd0\x0f\x01\x01\x01a" + strings.Repeat("\x00", 2000), slices.Repeat([]string{"a"}, 2000)},
		{"\xd0\x0f\x00" + string(eachByWords(again(2000, 2000, 60))), again(2000, 2000, 60)},
	} {
		if got, e := Take([]byte(x.b)); e != api.OK || !slices.Equal(got, x.want) {
			t.Errorf("Take(%q) = %q, %d, want %q", x.b, got, e, x.want)
		}
	}
}

// P6.2
func TestTakeOfWhatIsNone(t *testing.T) {
	for _, s := range []string{
		"",
		"\x00",
		"\x01",
		"\x80",
		"\xff",
		// No texts in a way that is not the one.
		"\x00\x01",
		"\x00\x01\x00",
		"\x00\x02",
		"\x00\xff",
		// Something behind them.
		"\x00\x00\x00",
		"\x01\x00\x00\x00",
		"\x01\x00\x01ab",
		"\x01\x00\x01a\x01b",
		"\x02\x01\x01\x03abc\x00\x00\x00",
		// Fewer, of texts, of bytes, or of places, than are told.
		"\x01\x00",
		"\x01\x00\x01",
		"\x01\x00\x02a",
		"\x02\x00\x01a",
		"\x02\x00\x01a\x01",
		"\x02\x01",
		"\x02\x01\x01",
		"\x02\x01\x01\x03",
		"\x02\x01\x01\x03ab",
		"\x02\x01\x01\x03abc",
		"\x02\x01\x01\x03abc\x00",
		"\x04\x01\x02\x04key1\x00\x01\x00\x01",
		// A way that is none.
		"\x01\x02\x01a",
		"\x01\xff\x01a",
		"\x02\x02\x01\x03abc\x00\x00",
		"\x02\x80\x01a\x01b",
		// The longer way, and Dict where both are as long.
		"\x01\x01\x01\x01a\x00",
		"\x01\x01\x01\x00\x00",
		"\x02\x00\x03abc\x03abc",
		"\x04\x00\x04key1\x04key2\x04key1\x04key2",
		"\x02\x01\x01\x02ab\x00\x00",
		"\x04\x01\x01\x00\x00\x00\x00\x00",
		// A place that there is not.
		"\x02\x01\x01\x03abc\x00\x01",
		"\x02\x01\x01\x03abc\x01\x00",
		"\x02\x01\x00\x00\x00",
		"\x02\x01\x00",
		"\x04\x01\x02\x04key1\x04key2\x00\x01\x00\x02",
		"\x04\x01\x02\x04key1\x04key2\x00\x01\x00\x7f",
		"\x02\x01\x01\x03abc\x00\xff\xff\xff\xff\xff\xff\xff\xff\xff\x01",
		"\x02\x01\x01\x03abc\x00\x80\x80\x80\x80\x80\x80\x80\x80\x80\x01",
		"\x02\x01\x01\x03abc\x00\x80\x80\x80\x80\x10",
		// A dictionary with one twice, with one that none has, or in an order that is not theirs.
		"\x02\x01\x02\x03abc\x03abc\x00\x01",
		"\x02\x01\x02\x03abc\x03abc\x00\x00",
		"\x05\x01\x02\x04key1\x04key1\x00\x01\x00\x01\x00",
		"\x05\x01\x02\x04key1\x04key2\x00\x00\x00\x00\x00",
		"\x05\x01\x02\x04key1\x04key2\x01\x01\x01\x01\x01",
		"\x04\x01\x02\x04key1\x04key2\x01\x00\x01\x00",
		"\x05\x01\x03\x04key1\x04key2\x04key3\x00\x02\x01\x00\x00",
		"\x05\x01\x06\x00\x01a\x01b\x01c\x01d\x01e\x00\x00\x00\x00\x00",
		// Numbers in more parts than they need, and beyond 64 bits.
		"\x80\x00\x00",
		"\x81\x00\x00\x01a",
		"\x01\x00\x80\x00",
		"\x01\x00\x81\x00a",
		"\x02\x01\x81\x00\x03abc\x00\x00",
		"\x02\x01\x01\x83\x00abc\x00\x00",
		"\x02\x01\x01\x03abc\x80\x00\x00",
		"\x02\x01\x01\x03abc\x00\x80\x00",
		"\x80\x80\x80\x80\x80\x80\x80\x80\x80\x02\x00",
		"\x01\x00\x80\x80\x80\x80\x80\x80\x80\x80\x80\x02",
		strings.Repeat("\xff", 30),
	} {
		if !none([]byte(s)) {
			t.Errorf("%q is a column", s)
		}
	}
	if !none(nil) {
		t.Error("nil is a column")
	}
}

// P6.2
func TestTakeOfTooLong(t *testing.T) {
	for _, size := range []int{61, 62, 64, 127, 128, 188, 256, 300, 316} {
		for _, l := range [][]string{{long(size)}, {"a", long(size)}, {long(size), long(size)}, {"a", long(size), "a", long(size)}} {
			if !none(Put(l)) {
				t.Errorf("%q is taken", l)
			}
		}
	}
	// Lengths of which a part of the bits would do are not cut down to it, and none goes round.
	for _, size := range []uint64{1<<8 + 1, 1<<32 + 1, 1 << 62, 1 << 63, 1<<63 + 1, math.MaxUint64} {
		if !none(column(1, 0, append(num.PutVar(size), 'a')...)) || !none(column(2, 1, slices.Concat([]byte{1}, num.PutVar(size), []byte{'a', 0, 0})...)) {
			t.Errorf("a text of %d bytes is taken", size)
		}
	}
}

// P6.2
func TestTakeOfTooMany(t *testing.T) {
	for _, count := range []int{2001, 2002, 2048, 4000} {
		for _, l := range [][]string{make([]string, count), again(count, 1, 1), again(count, 3, 60), again(count, count, 1)} {
			if !none(Put(l)) {
				t.Errorf("%d texts are a column", count)
			}
		}
	}
	// Counts of which a part of the bits would do are not cut down to it, and no room is made for them.
	for _, count := range []uint64{1<<32 + 1, 1<<32 + 2000, 1 << 61, 1 << 62, 1 << 63, 1<<63 + 1, math.MaxUint64} {
		for _, rest := range []string{"", "\x00", "\x01a", "\x01\x01a\x00", strings.Repeat("\x00", 2000)} {
			if !none(column(count, 0, []byte(rest)...)) || !none(column(count, 1, []byte(rest)...)) {
				t.Errorf("%d texts are a column", count)
			}
		}
		for _, rest := range []string{"", "\x03abc\x00\x00", strings.Repeat("\x00", 2000)} {
			if !none(column(2, 1, append(num.PutVar(count), rest...)...)) {
				t.Errorf("%d unlike texts are a dictionary", count)
			}
		}
	}
}

// short are the texts of at most size bytes, each of them below 4.
func short(size int) []string {
	out := []string{""}
	for begin := 0; size > 0; size-- {
		end := len(out)
		for _, s := range out[begin:end] {
			for c := range 4 {
				out = append(out, s+string([]byte{byte(c)}))
			}
		}
		begin = end
	}
	return out
}

// shortLists are the columns by their bytes: of those that have bytes below 4 alone, and not more than nine, all.
func shortLists() map[string][]string {
	out := map[string][]string{}
	add := func(l ...string) {
		if b := byWords(l); len(b) <= 9 {
			out[string(b)] = l
		}
	}
	add()
	for _, a := range short(3) {
		add(a)
		for _, b := range short(3) {
			add(a, b)
			for _, c := range short(3) {
				add(a, b, c)
			}
		}
	}
	return out
}

// P6.2: of nine bytes below 4, or fewer, those are columns that some texts are put as, and no others.
func TestTakeOfFewBytes(t *testing.T) {
	want, found := shortLists(), 0
	work := [][]byte{nil}
	for len(work) > 0 {
		b := work[len(work)-1]
		work = work[:len(work)-1]
		l, is := want[string(b)]
		got, e := Take(b)
		if is != (e == api.OK) || !is && e != api.ErrBad || !slices.Equal(got, l) {
			t.Fatalf("Take(%v) = %q, %d, want %q", b, got, e, l)
		}
		if is {
			found++
		}
		for c := range 4 {
			if len(b) < 9 {
				work = append(work, append(slices.Clone(b), byte(c)))
			}
		}
	}
	if found != len(want) {
		t.Errorf("%d columns are found, want %d", found, len(want))
	}
}

// P6.2: what is taken of bytes that are near a column's is put as these, or there is none.
func TestTakeOfOneByteChanged(t *testing.T) {
	for _, l := range [][]string{nil, {""}, {"a", "b"}, {"ab", "ab"}, {"abc", "abc"}, {"key1", "key2", "key1", "key2"}, {"b", "a", "b", "", "a"}, {long(60), "a", long(60)}, again(130, 2, 1), again(400, 129, 1)} {
		b := Put(l)
		for i := range b {
			if !none(b[:i]) {
				t.Errorf("the first %d bytes of %q are a column", i, l)
			}
			for _, c := range []byte{0, 1, 2, 3, 4, 'a', 'k', 59, 60, 61, 127, 128, 129, 255, b[i] - 1, b[i] + 1, b[i] ^ 128} {
				changed := slices.Clone(b)
				changed[i] = c
				got, e := Take(changed)
				may := e == api.OK && bytes.Equal(byWords(got), changed)
				if !may && !none(changed) || may && c != b[i] && slices.Equal(got, l) {
					t.Errorf("%q with %d at %d: %q, %d", l, c, i, got, e)
				}
			}
		}
		for c := range 256 {
			if !none(append(slices.Clone(b), byte(c))) {
				t.Errorf("%q with %d behind it is a column", l, c)
			}
		}
	}
}

// P6.3
func TestWhatWasPutIsTaken(t *testing.T) {
	for _, l := range lists() {
		got, e := Take(Put(l))
		if e != api.OK || !slices.Equal(got, l) {
			t.Fatalf("%q is taken as %q, %d", l, got, e)
		}
	}
	for count := range api.MaxRows + 1 {
		l := again(count, 1+count/2, count%61)
		if got, e := Take(Put(l)); e != api.OK || !slices.Equal(got, l) {
			t.Fatalf("%d texts are taken as %q, %d", count, got, e)
		}
	}
	for c := range 256 {
		for size := range api.MaxText + 1 {
			s := string(bytes.Repeat([]byte{byte(c)}, size))
			for _, l := range [][]string{{s}, {s, s}, {"a", s, s, "", s}} {
				if got, e := Take(Put(l)); e != api.OK || !slices.Equal(got, l) {
					t.Fatalf("%q is taken as %q, %d", l, got, e)
				}
			}
		}
	}
}

// P6.3
func TestTextsThatComeAgainHaveFewBytes(t *testing.T) {
	// One of 60 bytes once, and a byte for each that is there.
	if size := len(Put(slices.Repeat([]string{long(60)}, 2000))); size != 2+1+1+61+2000 {
		t.Errorf("2000 like texts have %d bytes", size)
	}
	if size := len(Put(again(2000, 128, 60))); size > 2+1+2+128*61+2000 {
		t.Errorf("2000 texts of 128 kinds have %d bytes", size)
	}
	for _, l := range lists() {
		head := len(num.PutVar(uint64(len(l)))) + 1
		if size := len(Put(l)) - head; size != min(len(eachByWords(l)), len(dictByWords(l))) {
			t.Fatalf("%q has %d bytes", l, size)
		}
	}
}

// R6, R7
func TestNothingIsShared(t *testing.T) {
	for _, l := range [][]string{{"a", "b"}, {"abc", "abc"}, {"key1", "key2", "key1", "key2"}} {
		kept := slices.Clone(l)
		each, dict, put := Each(l), Dict(l), Put(l)
		bytesKept := slices.Clone(put)
		one, _ := Take(put)
		two, _ := Take(put)
		if !slices.Equal(l, kept) || !bytes.Equal(put, bytesKept) {
			t.Error("what is handed in is changed")
		}
		clear(each)
		clear(dict)
		clear(put)
		clear(two)
		if !slices.Equal(l, kept) || !slices.Equal(one, kept) || !bytes.Equal(Put(l), bytesKept) {
			t.Error("what was told changes")
		}
	}
}
