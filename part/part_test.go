package part

import (
	"bytes"
	"hash/crc32"
	"math"
	"reflect"
	"slices"
	"strconv"
	"strings"
	"testing"

	"thresher/api"
	"thresher/block"
	"thresher/num"
	"thresher/schema"
)

func n(x int64) api.Value     { return api.Value{N: x} }
func text(s string) api.Value { return api.Value{S: s} }

// both is a value that is a number and a text, and fits no type.
func both(s string) api.Value { return api.Value{N: 1, S: s} }

// place is the place at i as a value.
func place(i int) api.Value { return api.Value{N: int64(i)} }

// long is a text of as many bytes as are asked for.
func long(size int) string { return strings.Repeat("x", size) }

// three is a schema of three columns, of which two are the key, and of so many rows in a granule.
func three(grain int) api.Schema {
	return api.Schema{Types: []int{api.Int, api.Text, api.Uint}, Keys: 2, Mode: api.Plain, Grain: grain}
}

// row is the row of three that stands at the place i: some next to each other have one key.
func row(i int) api.Row {
	return api.Row{n(int64(i/7 - 5)), text("k" + strconv.Itoa(i%7/3)), n(int64(-i))}
}

// some is so many rows of three, in order.
func some(count int) []api.Row {
	out := make([]api.Row, count)
	for i := range out {
		out[i] = row(i)
	}
	return out
}

// ofInts is a schema of one number, and of so many rows in a granule.
func ofInts(grain int) api.Schema {
	return api.Schema{Types: []int{api.Int}, Keys: 1, Mode: api.Plain, Grain: grain}
}

// rows is numbers as rows of one value.
func rows(l ...int64) []api.Row {
	out := make([]api.Row, len(l))
	for i, x := range l {
		out[i] = api.Row{n(x)}
	}
	return out
}

// deep is the rows of l, each of them new.
func deep(l []api.Row) []api.Row {
	var out []api.Row
	for _, r := range l {
		out = append(out, slices.Clone(r))
	}
	return out
}

// same tells whether a and b are the same rows.
func same(a, b []api.Row) bool {
	return slices.EqualFunc(a, b, func(a, b api.Row) bool { return slices.Equal(a, b) })
}

// framed is crc.Frame by the document's words.
func framed(b []byte) []byte {
	x := crc32.ChecksumIEEE(b)
	return slices.Concat(num.PutVar(uint64(len(b))), []byte{byte(x), byte(x >> 8), byte(x >> 16), byte(x >> 24)}, b)
}

// forged is what a file may be made of, piece by piece, whether it is what Write tells or not.
type forged struct {
	head     []byte
	granules [][]byte
	marks    [][]byte
	begins   []int
	end      int
}

// blocks is the columns of l, which are of types, as blocks.
func blocks(types []int, l []api.Row) [][]byte {
	var out [][]byte
	for at, t := range types {
		var col []api.Value
		for _, r := range l {
			col = append(col, r[at])
		}
		b, ok := block.Put(t, col)
		if !ok {
			panic("no column")
		}
		out = append(out, b)
	}
	return out
}

// forge is the pieces of rows of s that are cut in granules, by the document's words.
func forge(s api.Schema, granules ...[]api.Row) forged {
	f := forged{head: framed(schema.Put(s))}
	at := len(f.head)
	var marks []api.Row
	for _, g := range granules {
		f.begins = append(f.begins, at)
		b := slices.Concat(blocks(s.Types, g)...)
		f.granules = append(f.granules, b)
		at += len(b)
		if len(g) > 0 {
			marks = append(marks, g[0])
		}
	}
	f.marks = blocks(s.Types[:s.Keys], marks)
	f.end = at
	return f
}

// bytes is the pieces as a file.
func (f forged) bytes() []byte {
	var begins []api.Value
	for _, at := range f.begins {
		begins = append(begins, place(at))
	}
	b, _ := block.Put(api.Uint, begins)
	return slices.Concat(f.head, slices.Concat(f.granules...), slices.Concat(f.marks...), b, num.Put64(uint64(f.end)))
}

// cut is l in pieces of so many rows.
func cut(l []api.Row, grain int) [][]api.Row {
	var out [][]api.Row
	for i := 0; i < len(l); i += grain {
		out = append(out, l[i:min(i+grain, len(l))])
	}
	return out
}

// isWritten tells whether the bytes of rows are those of the document's words.
func isWritten(s api.Schema, l []api.Row) bool {
	b, e := Write(s, l)
	return e == api.OK && bytes.Equal(b, forge(s, cut(l, s.Grain)...).bytes())
}

// isTold tells whether nothing is written of these rows, and this error is told.
func isTold(s api.Schema, l []api.Row, want api.Errno) bool {
	b, e := Write(s, l)
	return len(b) == 0 && e == want
}

// isNone tells whether there is no part of these bytes.
func isNone(b []byte) bool {
	p, e := Open(b)
	return p == nil && e == api.ErrPart
}

// isPart tells whether p is the part of these rows, in all that it tells.
func isPart(p *Part, s api.Schema, l []api.Row) bool {
	granules := cut(l, s.Grain)
	if !reflect.DeepEqual(p.Schema(), s) || p.Rows() != len(l) || p.Granules() != len(granules) || !same(p.All(), l) {
		return false
	}
	for i, g := range granules {
		mark, is := p.Mark(i)
		got, there := p.Granule(i)
		if !is || !there || !slices.Equal(mark, g[0][:s.Keys]) || !same(got, g) {
			return false
		}
	}
	for _, i := range []int{-1, -2, len(granules), len(granules) + 1, math.MinInt, math.MaxInt} {
		mark, is := p.Mark(i)
		got, there := p.Granule(i)
		if is || there || mark != nil || got != nil {
			return false
		}
	}
	return true
}

// isOpened tells whether what is written of these rows is opened as them.
func isOpened(s api.Schema, l []api.Row) bool {
	b, e := Write(s, l)
	if e != api.OK {
		return false
	}
	p, e := Open(b)
	return e == api.OK && isPart(p, s, l)
}

// sample is a schema, and rows of it that make a part.
type sample struct {
	s api.Schema
	l []api.Row
}

// parts are tables of all types and modes, and of the values at their edges.
func parts() []sample {
	out := []sample{
		{ofInts(1), rows(4, 9)},
		{ofInts(64), rows(math.MinInt64, -1, 0, 0, 1, math.MaxInt64)},
		{api.Schema{Types: []int{api.Uint}, Keys: 1, Mode: api.Replacing, Grain: 2}, rows(0, 1, math.MaxInt64, math.MinInt64, -1)},
		{api.Schema{Types: []int{api.Text}, Keys: 1, Mode: api.Plain, Grain: 3}, []api.Row{{text("")}, {text("\x00")}, {text("a")}, {text("a\x00")}, {text(long(59))}, {text(long(60))}, {text(long(60))}, {text("\xff")}}},
		{api.Schema{Types: []int{api.Int, api.Int}, Keys: 1, Mode: api.Summing, Grain: 2}, []api.Row{{n(1), n(9)}, {n(1), n(-9)}, {n(1), n(0)}, {n(2), n(-1)}, {n(2), n(-1)}}},
	}
	for _, grain := range []int{1, 2, 3, 7, 63, 64} {
		for _, count := range []int{1, 2, 3, 6, 7, 8, 63, 64, 65, 128, 200} {
			for keys := 1; keys <= 3; keys++ {
				s := three(grain)
				s.Keys = min(keys, 2)
				s.Mode = keys
				out = append(out, sample{s, some(count)})
			}
		}
	}
	return out
}

// wide is the greatest table that there is, or near it: of texts that are long and unlike, all of the key, each row a granule.
func wide() sample {
	s := api.Schema{Types: slices.Repeat([]int{api.Text}, api.MaxCols), Keys: api.MaxCols, Mode: api.Plain, Grain: 1}
	l := make([]api.Row, api.MaxRows)
	for i := range l {
		for at := range api.MaxCols {
			head := strconv.Itoa(10000+i) + strconv.Itoa(at)
			l[i] = append(l[i], text(head+long(api.MaxText-len(head))))
		}
	}
	return sample{s, l}
}

// P11.1: byte by byte.
func TestWriteOfAFewBytes(t *testing.T) {
	b, e := Write(ofInts(1), rows(4, 9))
	want := slices.Concat(
		framed([]byte{1, 1, 1, 1, 1}),
		framed([]byte{1, 1, 1, 8}),
		framed([]byte{1, 1, 1, 18}),
		framed([]byte{1, 2, 1, 8, 10}),
		framed([]byte{2, 2, 1, 20, 18}),
		[]byte{28, 0, 0, 0, 0, 0, 0, 0},
	)
	if e != api.OK || !bytes.Equal(b, want) {
		t.Errorf("%v, %d, want %v", b, e, want)
	}
}

// P11.1
func TestWrite(t *testing.T) {
	for _, x := range parts() {
		if !isWritten(x.s, x.l) {
			b, e := Write(x.s, x.l)
			t.Errorf("%v, %d rows: %v, %d", x.s, len(x.l), b, e)
		}
	}
}

// P11.1
func TestWriteOfEachGrain(t *testing.T) {
	for grain := 1; grain <= api.MaxGrain; grain++ {
		for _, count := range []int{1, grain - 1, grain, grain + 1, 3*grain - 1, 3 * grain, 3*grain + 1} {
			if count > 0 && !isWritten(three(grain), some(count)) {
				t.Errorf("%d rows, grain %d", count, grain)
			}
		}
	}
}

// P11.1: of the marks the first columns alone, as many as the key has.
func TestWriteOfEachKey(t *testing.T) {
	types := slices.Repeat([]int{api.Int}, api.MaxCols)
	l := make([]api.Row, 5)
	for i := range l {
		for at := range api.MaxCols {
			l[i] = append(l[i], n(int64(i*1000+at)))
		}
	}
	for keys := 1; keys <= api.MaxCols; keys++ {
		s := api.Schema{Types: types, Keys: keys, Mode: api.Summing, Grain: 2}
		if !isWritten(s, l) || !isOpened(s, l) {
			t.Errorf("of %d keys", keys)
		}
	}
}

// P11.1, P11.2: as many rows as there may be.
func TestAsManyRowsAsMayBe(t *testing.T) {
	for _, grain := range []int{1, 2, 63, 64} {
		for _, count := range []int{api.MaxRows - 1, api.MaxRows} {
			if !isWritten(three(grain), some(count)) || !isOpened(three(grain), some(count)) {
				t.Errorf("%d rows, grain %d", count, grain)
			}
		}
		if !isTold(three(grain), some(api.MaxRows+1), api.ErrArg) {
			t.Errorf("%d rows, grain %d, are written", api.MaxRows+1, grain)
		}
	}
}

// P11.1
func TestWriteOfWhatMayNotBe(t *testing.T) {
	s := ofInts(2)
	for i, x := range []struct {
		s    api.Schema
		l    []api.Row
		want api.Errno
	}{
		{api.Schema{}, rows(1), api.ErrSchema},
		{api.Schema{Types: []int{}, Keys: 1, Mode: 1, Grain: 1}, rows(1), api.ErrSchema},
		{api.Schema{Types: []int{4}, Keys: 1, Mode: 1, Grain: 1}, rows(1), api.ErrSchema},
		{api.Schema{Types: []int{1}, Keys: 0, Mode: 1, Grain: 1}, rows(1), api.ErrSchema},
		{api.Schema{Types: []int{1}, Keys: 2, Mode: 1, Grain: 1}, rows(1), api.ErrSchema},
		{api.Schema{Types: []int{1}, Keys: -1, Mode: 1, Grain: 1}, rows(1), api.ErrSchema},
		{api.Schema{Types: []int{1}, Keys: 1, Mode: 0, Grain: 1}, rows(1), api.ErrSchema},
		{api.Schema{Types: []int{1}, Keys: 1, Mode: 4, Grain: 1}, rows(1), api.ErrSchema},
		{api.Schema{Types: []int{1}, Keys: 1, Mode: 1, Grain: 0}, rows(1), api.ErrSchema},
		{api.Schema{Types: []int{1}, Keys: 1, Mode: 1, Grain: -1}, rows(1), api.ErrSchema},
		{api.Schema{Types: []int{1}, Keys: 1, Mode: 1, Grain: 65}, rows(1), api.ErrSchema},
		{api.Schema{Types: slices.Repeat([]int{1}, 65), Keys: 1, Mode: 1, Grain: 1}, []api.Row{make(api.Row, 65)}, api.ErrSchema},
		{s, nil, api.ErrArg},
		{s, []api.Row{}, api.ErrArg},
		{s, make([]api.Row, 2001), api.ErrArg},
		{s, slices.Repeat(rows(1), 2001), api.ErrArg},
		{s, []api.Row{nil}, api.ErrRow},
		{s, []api.Row{{}}, api.ErrRow},
		{s, []api.Row{{n(1), n(2)}}, api.ErrRow},
		{s, []api.Row{{text("a")}}, api.ErrRow},
		{s, []api.Row{{n(1)}, {n(2)}, nil}, api.ErrRow},
		{s, []api.Row{{n(1)}, {both("a")}, {n(2)}}, api.ErrRow},
		{three(1), []api.Row{{n(1), text(long(61)), n(0)}}, api.ErrRow},
		{three(1), []api.Row{{n(1), text("a"), text("a")}}, api.ErrRow},
		{three(1), []api.Row{{n(1), both("a"), n(1)}}, api.ErrRow},
		{s, rows(2, 1), api.ErrArg},
		{s, rows(1, 2, 3, 2), api.ErrArg},
		{s, rows(1, 3, 2, 4), api.ErrArg},
		{s, rows(0, -1), api.ErrArg},
		{api.Schema{Types: []int{2}, Keys: 1, Mode: 1, Grain: 2}, rows(-1, 0), api.ErrArg},
		{three(2), []api.Row{{n(1), text("b"), n(0)}, {n(1), text("a"), n(0)}}, api.ErrArg},
		{three(2), []api.Row{{n(1), text("a\x00"), n(0)}, {n(1), text("a"), n(0)}}, api.ErrArg},
	} {
		if !isTold(x.s, x.l, x.want) {
			b, e := Write(x.s, x.l)
			t.Errorf("%d: %v, %d, want %d", i, b, e, x.want)
		}
	}
}

// P11.1, R3: the first error of those that apply is told.
func TestTheFirstErrorIsTold(t *testing.T) {
	bad := api.Schema{Types: []int{1}, Keys: 1, Mode: 1, Grain: 65}
	for i, x := range []struct {
		s    api.Schema
		l    []api.Row
		want api.Errno
	}{
		{bad, nil, api.ErrSchema},
		{bad, make([]api.Row, 2001), api.ErrSchema},
		{bad, []api.Row{nil}, api.ErrSchema},
		{bad, rows(2, 1), api.ErrSchema},
		{ofInts(1), append(rows(2, 1), nil), api.ErrRow},
		{ofInts(1), append([]api.Row{{text("a")}}, rows(2, 1)...), api.ErrRow},
		{ofInts(1), append(rows(2, 1), make([]api.Row, 1998)...), api.ErrRow},
		{ofInts(1), append(rows(2, 1), make([]api.Row, 1999)...), api.ErrArg},
	} {
		if !isTold(x.s, x.l, x.want) {
			_, e := Write(x.s, x.l)
			t.Errorf("%d: %d, want %d", i, e, x.want)
		}
	}
}

// P11.1: what is behind the key may stand in any order, and rows of one key too.
func TestTheKeyAloneHasASayInTheOrder(t *testing.T) {
	s := three(2)
	l := []api.Row{
		{n(1), text("a"), n(9)},
		{n(1), text("a"), n(3)},
		{n(1), text("a"), n(-1)},
		{n(1), text("b"), n(0)},
		{n(1), text("b"), n(0)},
	}
	if !isWritten(s, l) || !isOpened(s, l) {
		t.Error("rows in order are not written, or not opened")
	}
	s.Keys = 3
	if !isTold(s, l, api.ErrArg) {
		t.Error("rows in no order are written")
	}
	s.Keys = 1
	l[0], l[4] = l[4], l[0]
	if !isWritten(s, l) || !isOpened(s, l) {
		t.Error("rows in order by the first column are not written, or not opened")
	}
}

// P11.2
func TestOpen(t *testing.T) {
	b, _ := Write(ofInts(1), rows(4, 9))
	p, e := Open(b)
	if e != api.OK || p.Granules() != 2 || p.Rows() != 2 {
		t.Fatal(e)
	}
	if m, ok := p.Mark(1); !ok || !slices.Equal(m, api.Row{n(9)}) {
		t.Errorf("mark 1: %v, %t", m, ok)
	}
	for _, x := range parts() {
		if !isOpened(x.s, x.l) {
			t.Errorf("%v, %d rows", x.s, len(x.l))
		}
	}
}

// P11.2: not what Write tells, but what the document's words say, is opened.
func TestOpenOfForged(t *testing.T) {
	for _, x := range parts() {
		p, e := Open(forge(x.s, cut(x.l, x.s.Grain)...).bytes())
		if e != api.OK || !isPart(p, x.s, x.l) {
			t.Errorf("%v, %d rows: %d", x.s, len(x.l), e)
		}
	}
}

// P11.1, P11.2
func TestTheGreatestIsOpened(t *testing.T) {
	x := wide()
	if !isWritten(x.s, x.l) || !isOpened(x.s, x.l) {
		t.Error("the greatest part is not written, or not opened")
	}
}

// P11.2
func TestOpenOfNothing(t *testing.T) {
	head := framed(schema.Put(ofInts(1)))
	for _, b := range [][]byte{
		nil,
		{},
		{0},
		make([]byte, 7),
		make([]byte, 8),
		make([]byte, 9),
		make([]byte, 300),
		bytes.Repeat([]byte{1}, 300),
		bytes.Repeat([]byte{255}, 300),
		bytes.Repeat([]byte{128}, 300),
		framed(nil),
		framed(make([]byte, 30)),
		head,
		slices.Concat(head, make([]byte, 7)),
		slices.Concat(head, make([]byte, 8)),
		slices.Concat(head, num.Put64(uint64(len(head)))),
		slices.Concat(head, head, num.Put64(uint64(len(head)))),
		slices.Concat(head, num.Put64(uint64(len(head)+8))),
		slices.Concat(head, num.Put64(math.MaxUint64)),
		slices.Concat(head, num.Put64(1<<63)),
		slices.Concat(head, num.Put64(1<<32)),
	} {
		if !isNone(b) {
			t.Errorf("there is a part of %.40v", b)
		}
	}
}

// P11.2: pieces that are right each, with their sums, but are not what is written of any rows.
func TestOpenOfWrongPieces(t *testing.T) {
	s := three(2)
	l := some(5)
	// turned is the file of l with one piece that is another one.
	turned := func(turn func(f *forged)) []byte {
		f := forge(s, cut(l, 2)...)
		turn(&f)
		return f.bytes()
	}
	if isNone(turned(func(f *forged) {})) {
		t.Fatal("there is no part of what is as it must be")
	}
	wider := api.Schema{Types: []int{api.Int, api.Text, api.Uint, api.Int}, Keys: 2, Mode: api.Plain, Grain: 2}
	ints := api.Schema{Types: []int{api.Int, api.Text, api.Int}, Keys: 2, Mode: api.Plain, Grain: 2}
	fewer, more, coarse := three(2), three(2), three(3)
	fewer.Keys, more.Keys = 1, 3
	for i, turn := range []func(f *forged){
		func(f *forged) { f.head = framed(schema.Put(api.Schema{})) },
		func(f *forged) { f.head = framed(append(schema.Put(s), 0)) },
		func(f *forged) { f.head = framed(schema.Put(s)[:6]) },
		func(f *forged) { f.head = nil },
		func(f *forged) { f.head = slices.Concat(f.head, f.head) },
		func(f *forged) { f.head = framed(schema.Put(wider)) },
		func(f *forged) { f.head = framed(schema.Put(ints)) },
		func(f *forged) { f.head = framed(schema.Put(fewer)) },
		func(f *forged) { f.head = framed(schema.Put(more)) },
		func(f *forged) { f.head = framed(schema.Put(coarse)) },
		func(f *forged) { f.head = framed(schema.Put(three(1))) },
		func(f *forged) { f.granules = nil },
		func(f *forged) { f.granules = f.granules[1:] },
		func(f *forged) { f.granules = f.granules[:2] },
		func(f *forged) { f.granules = append(f.granules, f.granules[2]) },
		func(f *forged) { f.granules[0], f.granules[1] = f.granules[1], f.granules[0] },
		func(f *forged) { f.granules[2] = blocks(s.Types, l[4:5])[0] },
		func(f *forged) { f.granules[2] = slices.Concat(blocks(s.Types, l[4:5])[:2]...) },
		func(f *forged) { f.granules[1] = slices.Concat(blocks(wider.Types[:3], l[2:3])...) },
		func(f *forged) { f.granules[2] = slices.Concat(blocks(ints.Types, l[4:5])...) },
		func(f *forged) { f.granules[2] = append(f.granules[2], 0) },
		func(f *forged) { f.granules[0] = append([]byte{0}, f.granules[0]...) },
		func(f *forged) { f.marks = nil },
		func(f *forged) { f.marks = f.marks[:1] },
		func(f *forged) { f.marks = append(f.marks, f.marks[1]) },
		func(f *forged) { f.marks[0], f.marks[1] = f.marks[1], f.marks[0] },
		func(f *forged) { f.marks = blocks(s.Types[:2], []api.Row{l[0], l[2]}) },
		func(f *forged) { f.marks = blocks(s.Types[:2], []api.Row{l[0], l[2], l[4], l[4]}) },
		func(f *forged) { f.marks = blocks(s.Types[:2], []api.Row{l[0], {n(-5), text("k1"), n(0)}, l[4]}) },
		func(f *forged) { f.marks = blocks(s.Types, []api.Row{l[0], l[2], l[4]}) },
		func(f *forged) { f.marks[0] = append(f.marks[0], 0) },
		func(f *forged) { f.begins = nil },
		func(f *forged) { f.begins = f.begins[:2] },
		func(f *forged) { f.begins[0]++ },
		func(f *forged) { f.begins[2]-- },
		func(f *forged) { f.begins[1] = f.begins[0] },
		func(f *forged) { f.begins[0] = 0 },
		func(f *forged) { f.begins[2] = -1 },
		func(f *forged) { f.begins = append(f.begins, f.end) },
		func(f *forged) { f.end = 0 },
		func(f *forged) { f.end = len(f.head) - 1 },
		func(f *forged) { f.end = f.begins[0] },
		func(f *forged) { f.end = f.begins[1] },
		func(f *forged) { f.end = f.begins[2] },
		func(f *forged) { f.end-- },
		func(f *forged) { f.end++ },
		func(f *forged) { f.end += len(f.marks[0]) },
		func(f *forged) { f.end = -1 },
		func(f *forged) { f.end = math.MinInt },
		func(f *forged) { f.end = math.MaxInt },
		func(f *forged) { f.end += 1 << 32 },
	} {
		if !isNone(turned(turn)) {
			t.Errorf("%d: there is a part", i)
		}
	}
}

// P11.2: rows that may not be in a part, and granules that are cut otherwise, all else being as it must be.
func TestOpenOfWrongRows(t *testing.T) {
	two := ofInts(2)
	for i, x := range []struct {
		s        api.Schema
		granules [][]api.Row
	}{
		{two, nil},
		{two, [][]api.Row{rows()}},
		{two, [][]api.Row{rows(), rows()}},
		{two, [][]api.Row{rows(1, 2), rows()}},
		{two, [][]api.Row{rows(), rows(1, 2)}},
		{two, [][]api.Row{rows(1), rows(2)}},
		{two, [][]api.Row{rows(1), rows(2, 3)}},
		{two, [][]api.Row{rows(1, 2), rows(3), rows(4, 5)}},
		{two, [][]api.Row{rows(1, 2, 3)}},
		{two, [][]api.Row{rows(1, 2), rows(3, 4, 5)}},
		{two, [][]api.Row{rows(2, 1)}},
		{two, [][]api.Row{rows(1, 2), rows(1, 2)}},
		{two, [][]api.Row{rows(1, 5), rows(4)}},
		{ofInts(64), [][]api.Row{beyond(), rows(66)}},
		{ofInts(64), [][]api.Row{beyond()}},
		{ofInts(1), cut(slices.Repeat(rows(7), 2001), 1)},
		{ofInts(64), cut(slices.Repeat(rows(7), 2001), 64)},
		{ofInts(64), cut(slices.Repeat(rows(7), 5000), 64)},
		{ofInts(64), cut(slices.Repeat(rows(7), 4000), 2000)},
	} {
		var f forged
		if len(x.granules) <= api.MaxRows {
			f = forge(x.s, x.granules...)
		} else {
			// There is no block of so many marks: the granules alone are too many.
			f = forge(x.s, x.granules[:2000]...)
			f.granules = append(f.granules, f.granules[0])
			f.end += len(f.granules[0])
		}
		if !isNone(f.bytes()) {
			t.Errorf("%d: there is a part", i)
		}
	}
}

// beyond is one row more than a granule may have.
func beyond() []api.Row {
	var l []int64
	for i := range int64(65) {
		l = append(l, i)
	}
	return rows(l...)
}

// P11.2: columns of a granule that have not all as many values are none.
func TestOpenOfUnevenColumns(t *testing.T) {
	s := api.Schema{Types: []int{api.Int, api.Int}, Keys: 1, Mode: api.Plain, Grain: 4}
	col := func(l ...int64) []byte { return blocks([]int{api.Int}, rows(l...))[0] }
	l := []api.Row{{n(1), n(5)}, {n(2), n(6)}}
	for _, x := range []struct {
		a, b []byte
		is   bool
	}{
		{col(1, 2), col(5, 6), true},
		{col(1, 2), col(5), false},
		{col(1), col(5, 6), false},
		{col(1, 2), col(5, 6, 7), false},
		{col(1, 2, 3), col(5, 6), false},
		{col(), col(), false},
		{col(1, 2), col(), false},
		{col(), col(5, 6), false},
		{col(1, 2), nil, false},
	} {
		f := forge(s, l)
		f.granules[0] = slices.Concat(x.a, x.b)
		f.end = len(f.head) + len(f.granules[0])
		if isNone(f.bytes()) == x.is {
			t.Errorf("%v, %v: %t", x.a, x.b, !x.is)
		}
	}
}

// P11.2: few bytes that say very many rows end soon.
func TestOpenOfVeryManyRows(t *testing.T) {
	s := api.Schema{Types: []int{api.Text}, Keys: 1, Mode: api.Plain, Grain: 64}
	f := forge(s, []api.Row{{text("a")}})
	f.granules = slices.Repeat(blocks(s.Types, slices.Repeat([]api.Row{{text("abc")}}, 2000)), 5000)
	f.end = len(f.head) + len(slices.Concat(f.granules...))
	if !isNone(f.bytes()) {
		t.Error("there is a part of ten million rows")
	}
}

// P11.3
func TestWhatWasWrittenIsOpened(t *testing.T) {
	for count := 1; count <= 300; count += 1 + count/30 {
		for grain := 1; grain <= api.MaxGrain; grain += 1 + grain/10 {
			if !isOpened(three(grain), some(count)) {
				t.Fatalf("%d rows, grain %d", count, grain)
			}
		}
	}
}

// few are parts of which each byte may be gone through.
func few() [][]byte {
	var out [][]byte
	for _, x := range []sample{
		{ofInts(1), rows(4)},
		{ofInts(1), rows(4, 9)},
		{ofInts(2), rows(4, 9, 9)},
		{ofInts(64), rows(0, 0, 0, 0)},
		{three(2), some(5)},
		{three(64), some(80)},
	} {
		b, _ := Write(x.s, x.l)
		out = append(out, b)
	}
	return out
}

// P11.3
func TestBytesThatAreChangedAreTold(t *testing.T) {
	for _, b := range few() {
		if isNone(b) {
			t.Fatalf("there is no part of %v", b)
		}
		for i := range b {
			for x := 1; x < 256; x++ {
				other := slices.Clone(b)
				other[i] ^= byte(x)
				if !isNone(other) {
					t.Fatalf("the byte %d of %v is %d, and there is a part", i, b, other[i])
				}
			}
		}
	}
}

// P11.3
func TestBytesThatAreLeftOutAreTold(t *testing.T) {
	for _, b := range few() {
		for i := range b {
			// What stands behind the slice's end is not of it.
			if !isNone(b[:i]) || !isNone(slices.Clone(b[:i])) || i > 0 && !isNone(b[i:]) {
				t.Fatalf("%v is cut at %d, and there is a part", b, i)
			}
			for size := 1; size <= 20 && i+size <= len(b); size++ {
				if !isNone(slices.Concat(b[:i], b[i+size:])) {
					t.Fatalf("%d bytes are left out of %v at %d, and there is a part", size, b, i)
				}
			}
		}
	}
}

// P11.3
func TestBytesThatArePutBehindAreTold(t *testing.T) {
	for _, b := range few() {
		for _, behind := range [][]byte{{0}, {1}, {255}, make([]byte, 8), make([]byte, 30), b, b[len(b)-8:], framed(nil), framed([]byte{2, 0, 0})} {
			if !isNone(slices.Concat(b, behind)) || !isNone(slices.Concat(behind, b)) {
				t.Fatalf("%v stands behind %v, or ahead of it, and there is a part", behind, b)
			}
		}
		for i := range b {
			for _, x := range []byte{0, 1, 128, 255, b[i]} {
				// A byte that stands ahead of one that is the same is put behind all that are.
				if !isNone(slices.Insert(slices.Clone(b), i, x)) {
					t.Fatalf("%d is put into %v at %d, and there is a part", x, b, i)
				}
			}
		}
	}
}

// P11.3: places that hold another one's bytes.
func TestBytesThatAreExchangedAreTold(t *testing.T) {
	for _, b := range few()[:5] {
		for i := range b {
			for j := range i {
				other := slices.Clone(b)
				other[i], other[j] = b[j], b[i]
				if b[i] != b[j] && !isNone(other) {
					t.Fatalf("the bytes %d and %d of %v are exchanged, and there is a part", i, j, b)
				}
			}
		}
	}
}

// R7: what is handed in is not changed.
func TestNothingHandedInIsChanged(t *testing.T) {
	// Behind what is handed in there is more of the caller's.
	whole := some(9)
	s := three(2)
	b, _ := Write(s, whole[:7])
	if !same(whole, some(9)) || !reflect.DeepEqual(s, three(2)) {
		t.Error("what is handed to Write is changed")
	}
	room := slices.Concat(b, make([]byte, 50))
	Open(room[:len(b)])
	if !bytes.Equal(room, slices.Concat(b, make([]byte, 50))) {
		t.Error("what is handed to Open is changed")
	}
}

// R7: neither sees what becomes of the other's bytes and rows.
func TestWhatIsWrittenIsTheCallers(t *testing.T) {
	s, l := three(2), some(7)
	one, _ := Write(s, l)
	two, _ := Write(s, l)
	p, _ := Open(one)
	clear(one)
	for _, r := range l {
		clear(r)
	}
	clear(s.Types)
	if !isPart(p, three(2), some(7)) {
		t.Error("a part is changed by what becomes of its bytes")
	}
	if want, _ := Write(three(2), some(7)); !bytes.Equal(two, want) {
		t.Error("what was written is changed by what becomes of the rows")
	}
}

// R7: a part stays as it is, whatever becomes of what it told.
func TestWhatIsToldIsTheCallers(t *testing.T) {
	b, _ := Write(three(2), some(7))
	p, _ := Open(b)
	spoil := func(l []api.Row) {
		for i, r := range l {
			// What is put behind a row's end must not be put in another one.
			_ = append(r, n(77), n(78))
			clear(r)
			l[i] = nil
		}
		_ = append(l, api.Row{n(79)})
	}
	kept, first := p.All(), deep(p.All())
	s := p.Schema()
	_ = append(s.Types[:1], api.Int)
	clear(s.Types)
	spoil(p.All())
	for i := range p.Granules() {
		g, _ := p.Granule(i)
		spoil(g)
		m, _ := p.Mark(i)
		_ = append(m, n(77), n(78))
		clear(m)
	}
	if !isPart(p, three(2), some(7)) || !same(kept, first) {
		t.Error("a part is changed by what becomes of what it told")
	}
}

// R7: no two rows of one answer run into each other.
func TestRowsDoNotRunIntoEachOther(t *testing.T) {
	b, _ := Write(three(3), some(7))
	p, _ := Open(b)
	all := p.All()
	for i := range all {
		all[i] = append(all[i], n(77))
		all[i][0] = n(78)
	}
	for i, r := range all {
		if !slices.Equal(r[1:3], row(i)[1:]) || r[0] != n(78) || r[3] != n(77) {
			t.Errorf("the row %d becomes %v", i, r)
		}
	}
}

// R6: two parts of the same bytes, and each call of them, tell the same; and one does not see the other.
func TestPartsAreTheirOwn(t *testing.T) {
	a, _ := Write(three(2), some(7))
	b, _ := Write(ofInts(1), rows(4, 9))
	for range 3 {
		p, _ := Open(a)
		q, _ := Open(b)
		again, _ := Open(a)
		if !isPart(p, three(2), some(7)) || !isPart(p, three(2), some(7)) || !isPart(q, ofInts(1), rows(4, 9)) || !isPart(again, three(2), some(7)) || !isNone(a[1:]) {
			t.Error("a part hangs on others")
		}
	}
}

// R1: a part that no call told has nothing, and does no harm.
func TestThePartThatIsNone(t *testing.T) {
	var p Part
	for _, i := range []int{-1, 0, 1, math.MinInt, math.MaxInt} {
		mark, is := p.Mark(i)
		g, there := p.Granule(i)
		if is || there || mark != nil || g != nil {
			t.Errorf("it has a granule %d", i)
		}
	}
	if p.Rows() != 0 || p.Granules() != 0 || len(p.All()) != 0 || len(p.Schema().Types) != 0 {
		t.Error("it has something")
	}
}
