package schema

import (
	"bytes"
	"math"
	"reflect"
	"slices"
	"strings"
	"testing"

	"thresher/api"
	"thresher/num"
	"thresher/value"
)

func n(x int64) api.Value     { return api.Value{N: x} }
func text(s string) api.Value { return api.Value{S: s} }

// wide is a list of types, as many as are asked for, of each kind by turns.
func wide(count int) []int {
	out := make([]int, count)
	for i := range out {
		out[i] = 1 + i%3
	}
	return out
}

// plain is a schema that may be, of these types.
func plain(keys int, types ...int) api.Schema {
	return api.Schema{Types: types, Keys: keys, Mode: api.Plain, Grain: 4}
}

// strangers are numbers that are no type, no mode, no count of keys of three columns, and no grain.
var strangers = []int{0, -1, -3, 65, 66, 127, 128, 129, 256, 257, 1 << 32, 1<<32 + 1, math.MaxInt, math.MaxInt - 1, math.MinInt, math.MinInt + 1, math.MinInt + 2}

// good is schemas that may be: the edges of each of their numbers.
func good() []api.Schema {
	var out []api.Schema
	for _, types := range [][]int{{1}, {2}, {3}, {3, 3}, {1, 3, 2}, {2, 2, 1, 3, 1}, wide(63), wide(api.MaxCols)} {
		for _, keys := range []int{1, (len(types) + 1) / 2, len(types)} {
			for _, mode := range []int{api.Plain, api.Replacing, api.Summing} {
				for _, grain := range []int{1, 2, 63, api.MaxGrain} {
					out = append(out, api.Schema{Types: types, Keys: keys, Mode: mode, Grain: grain})
				}
			}
		}
	}
	return out
}

// bad is schemas that may not be, nearly all by one thing alone.
func bad() map[string]api.Schema {
	three := []int{1, 3, 2}
	out := map[string]api.Schema{
		"nothing":             {},
		"no types":            {Keys: 1, Mode: 1, Grain: 1},
		"no types, no keys":   {Types: []int{}, Mode: 1, Grain: 1},
		"65 types":            {Types: wide(65), Keys: 1, Mode: 1, Grain: 1},
		"1000 types":          {Types: wide(1000), Keys: 1, Mode: 1, Grain: 1},
		"a key too many":      {Types: three, Keys: 4, Mode: 1, Grain: 1},
		"a key too many of 1": {Types: three[:1], Keys: 2, Mode: 1, Grain: 1},
		"65 keys":             {Types: wide(64), Keys: 65, Mode: 1, Grain: 1},
		"mode 4":              {Types: three, Keys: 1, Mode: 4, Grain: 1},
		"type 4":              {Types: []int{4}, Keys: 1, Mode: 1, Grain: 1},
		"last type 4":         {Types: []int{1, 3, 4}, Keys: 1, Mode: 1, Grain: 1},
	}
	for _, x := range strangers {
		name := value.Text(api.Int, n(int64(x)))
		out["first type "+name] = api.Schema{Types: []int{x, 1, 1}, Keys: 1, Mode: 1, Grain: 1}
		out["last type "+name] = api.Schema{Types: []int{1, 1, x}, Keys: 1, Mode: 1, Grain: 1}
		out["keys "+name] = api.Schema{Types: three, Keys: x, Mode: 1, Grain: 1}
		out["mode "+name] = api.Schema{Types: three, Keys: 1, Mode: x, Grain: 1}
		out["grain "+name] = api.Schema{Types: three, Keys: 1, Mode: 1, Grain: x}
	}
	return out
}

// P4.1
func TestCheck(t *testing.T) {
	for _, s := range good() {
		if e := Check(s); e != api.OK {
			t.Errorf("Check(%v) = %d", s, e)
		}
	}
	for name, s := range bad() {
		if e := Check(s); e != api.ErrSchema {
			t.Errorf("%s: Check = %d", name, e)
		}
	}
}

// P4.1
func TestRow(t *testing.T) {
	s := plain(1, api.Int, api.Text, api.Uint)
	long := strings.Repeat("x", api.MaxText)
	for _, r := range []api.Row{
		{n(1), text("a"), n(9)},
		{n(0), text(""), n(0)},
		{n(math.MinInt64), text(long), n(-1)},
		{{}, {}, {}},
	} {
		if !Row(s, r) {
			t.Errorf("%v may not be", r)
		}
	}
	for _, r := range []api.Row{
		nil,
		{},
		{n(1)},
		{n(1), text("a")},
		{n(1), text("a"), n(9), n(9)},
		{n(1), text("a"), n(9), {}},
		{text("a"), text("a"), n(9)},
		{n(1), n(1), n(9)},
		{n(1), text("a"), text("a")},
		{n(1), text("a"), {N: 9, S: "a"}},
		{{N: 1, S: "a"}, text("a"), n(9)},
		{n(1), {N: 1, S: "a"}, n(9)},
		{n(1), text(long + "x"), n(9)},
		{text("a"), n(1), n(9)},
	} {
		if Row(s, r) {
			t.Errorf("%v may be", r)
		}
	}
}

// P4.1
func TestRowOfWide(t *testing.T) {
	for count := 1; count <= api.MaxCols; count++ {
		s := api.Schema{Types: wide(count), Keys: 1, Mode: 1, Grain: 1}
		r := make(api.Row, count)
		if !Row(s, r) || Row(s, r[1:]) || Row(s, append(slices.Clone(r), api.Value{})) {
			t.Errorf("a row of %d columns has as many values", count)
		}
		for i := range r {
			r[i] = api.Value{N: 1, S: "a"}
			if Row(s, r) {
				t.Errorf("of %d columns the one at %d is not looked at", count, i)
			}
			r[i] = api.Value{}
		}
	}
}

// P4.1, R1: a row is held against the types, whatever else the schema says.
func TestRowOfSchemasThatMayNotBe(t *testing.T) {
	if !Row(api.Schema{Types: []int{api.Int}}, api.Row{n(1)}) || !Row(api.Schema{}, nil) || Row(api.Schema{}, api.Row{n(1)}) {
		t.Error("a row is held against the types alone")
	}
	for _, x := range strangers {
		if Row(plain(1, x), api.Row{{}}) || Row(plain(1, api.Int, x), api.Row{n(1), n(1)}) {
			t.Errorf("a value fits type %d", x)
		}
	}
}

// P4.1
func TestBatch(t *testing.T) {
	s := plain(1, api.Int, api.Text)
	fit := func(count int) []api.Row {
		out := make([]api.Row, count)
		for i := range out {
			out[i] = api.Row{n(int64(i)), text("a")}
		}
		return out
	}
	for _, count := range []int{1, 2, 63, api.MaxBatch} {
		if e := Batch(s, fit(count)); e != api.OK {
			t.Errorf("%d rows: %d", count, e)
		}
		for i := range count {
			for _, r := range []api.Row{nil, {n(1)}, {n(1), n(1)}, {n(1), text("a"), n(1)}} {
				l := fit(count)
				l[i] = r
				if e := Batch(s, l); e != api.ErrRow {
					t.Errorf("%d rows, %v at %d: %d", count, r, i, e)
				}
			}
		}
	}
	for _, l := range [][]api.Row{nil, {}, fit(65), fit(2000)} {
		if e := Batch(s, l); e != api.ErrBatch {
			t.Errorf("%d rows: %d", len(l), e)
		}
	}
	// R3: too many rows are told ahead of one that may not be.
	if e := Batch(s, make([]api.Row, 65)); e != api.ErrBatch {
		t.Errorf("65 rows that may not be: %d", e)
	}
}

// P4.2
func TestCompare(t *testing.T) {
	s := plain(3, api.Int, api.Text, api.Uint, api.Int)
	row := func(a int64, b string, c, d int64) api.Row { return api.Row{n(a), text(b), n(c), n(d)} }
	for _, x := range []struct {
		keys int
		a, b api.Row
		want int
	}{
		{3, row(1, "b", 1, 1), row(1, "b", 1, 1), 0},
		{3, row(1, "b", 1, 1), row(2, "a", 0, 0), -1},
		{3, row(2, "a", 0, 0), row(1, "b", 1, 1), 1},
		{3, row(-1, "b", 1, 1), row(1, "b", 1, 1), -1},
		{3, row(1, "b", 9, 9), row(1, "c", 1, 1), -1},
		{3, row(1, "bb", 0, 0), row(1, "b", 1, 1), 1},
		{3, row(1, "b", -1, 0), row(1, "b", 1, 1), 1},
		{3, row(1, "b", 2, 9), row(1, "b", 3, 1), -1},
		// What is not of the key has no say.
		{3, row(1, "b", 1, 1), row(1, "b", 1, 2), 0},
		{2, row(1, "b", 1, 1), row(1, "b", 2, 2), 0},
		{2, row(1, "c", 1, 1), row(1, "b", 2, 2), 1},
		{1, row(1, "b", 1, 1), row(1, "c", 2, 2), 0},
		{1, row(0, "z", 1, 1), row(1, "c", 2, 2), -1},
		{4, row(1, "b", 1, 1), row(1, "b", 1, 2), -1},
		// Of fewer values it is of those that both have.
		{3, nil, row(1, "b", 1, 1), 0},
		{3, row(1, "b", 1, 1), api.Row{}, 0},
		{3, nil, nil, 0},
		{3, row(1, "b", 1, 1)[:1], row(1, "c", 1, 1), 0},
		{3, row(1, "b", 1, 1)[:1], row(2, "c", 1, 1), -1},
		{3, row(1, "b", 1, 1), row(1, "c", 1, 1)[:1], 0},
		{3, row(1, "b", 1, 1), row(1, "c", 1, 1)[:2], -1},
		{3, row(1, "b", 1, 1)[:2], row(1, "b", 9, 1), 0},
		{3, row(1, "b", 1, 1)[:2], row(1, "a", 9, 1)[:3], 1},
		// What does not fit is the same as anything: the next column says.
		{3, api.Row{{N: 1, S: "x"}, text("a"), n(1)}, row(2, "b", 1, 1), -1},
		{3, api.Row{n(1), n(7), n(5)}, row(1, "b", 1, 1), 1},
	} {
		s.Keys = x.keys
		if got := Compare(s, x.a, x.b); got != x.want {
			t.Errorf("%d keys: Compare(%v, %v) = %d, want %d", x.keys, x.a, x.b, got, x.want)
		}
	}
}

// P4.2
func TestCompareAtEachColumn(t *testing.T) {
	for keys := 1; keys <= api.MaxCols; keys++ {
		s := api.Schema{Types: wide(api.MaxCols), Keys: keys, Mode: 1, Grain: 1}
		for at := range api.MaxCols {
			a, b := make(api.Row, api.MaxCols), make(api.Row, api.MaxCols)
			b[at] = n(1)
			if s.Types[at] == api.Text {
				b[at] = text("a")
			}
			want := 0
			if at < keys {
				want = -1
			}
			if Compare(s, a, b) != want || Compare(s, b, a) != -want || Compare(s, a, b[:at]) != 0 || Compare(s, a, b[:at+1]) != want {
				t.Fatalf("%d keys, rows that differ at %d", keys, at)
			}
		}
	}
}

// R1: schemas that may not be are not asked for, but do no harm.
func TestCompareOfSchemasThatMayNotBe(t *testing.T) {
	a, b := api.Row{n(1), text("a"), n(1), n(1)}, api.Row{n(1), text("a"), n(1), n(2)}
	for _, s := range bad() {
		Compare(s, a, b)
		Compare(s, nil, b)
	}
}

// P4.3
func TestPut(t *testing.T) {
	for _, x := range []struct {
		s    api.Schema
		want []byte
	}{
		{api.Schema{Types: []int{api.Int, api.Text}, Keys: 1, Mode: api.Plain, Grain: 4}, []byte{2, 1, 3, 1, 1, 4}},
		{api.Schema{Types: []int{api.Uint}, Keys: 1, Mode: api.Summing, Grain: 64}, []byte{1, 2, 1, 3, 64}},
		{api.Schema{Types: []int{3, 2, 1}, Keys: 3, Mode: api.Replacing, Grain: 1}, []byte{3, 3, 2, 1, 3, 2, 1}},
		// Of a schema that may not be it is the numbers' bytes too.
		{api.Schema{}, []byte{0, 0, 0, 0}},
		{api.Schema{Types: []int{0}, Keys: 300, Mode: 128, Grain: 127}, []byte{1, 0, 172, 2, 128, 1, 127}},
		{api.Schema{Types: []int{1}, Keys: 1, Mode: 1, Grain: -1}, append([]byte{1, 1, 1, 1}, num.PutVar(math.MaxUint64)...)},
	} {
		if got := Put(x.s); !bytes.Equal(got, x.want) {
			t.Errorf("Put(%v) = %v, want %v", x.s, got, x.want)
		}
	}
	long := Put(api.Schema{Types: make([]int, 300), Keys: 1, Mode: 1, Grain: 1})
	if want := slices.Concat([]byte{172, 2}, make([]byte, 300), []byte{1, 1, 1}); !bytes.Equal(long, want) {
		t.Errorf("300 types are put as %v", long)
	}
}

// noSchema tells whether Take finds nothing in b, and says so.
func noSchema(b []byte) bool {
	s, e := Take(b)
	return e == api.ErrBad && reflect.DeepEqual(s, api.Schema{})
}

// P4.3
func TestTakeOfWhatIsNone(t *testing.T) {
	most := num.PutVar(math.MaxUint64)
	nines := bytes.Repeat([]byte{255}, 9)
	for _, b := range [][]byte{
		nil,
		{},
		{0},
		{1},
		{128},
		{0, 1, 1, 1},
		{0, 0, 1, 1},
		{1, 1, 1, 1},
		{1, 1, 1, 1, 1, 1},
		{1, 1, 1, 1, 1, 0},
		{2, 1, 1, 1, 1},
		{1, 1, 1, 1, 128},
		{1, 1, 1, 1, 129, 0},
		{129, 0, 1, 1, 1, 1},
		{1, 129, 0, 1, 1, 1},
		{1, 1, 1, 1, 193, 0},
		slices.Concat([]byte{65}, bytes.Repeat([]byte{1}, 68)),
		slices.Concat([]byte{128, 1}, bytes.Repeat([]byte{1}, 131)),
		slices.Concat(most, []byte{1, 1, 1, 1}),
		slices.Concat(num.PutVar(1<<63), []byte{1, 1, 1, 1}),
		slices.Concat(num.PutVar(1<<62), []byte{1, 1, 1, 1}),
		slices.Concat(num.PutVar(1<<32+1), []byte{1, 1, 1, 1}),
		slices.Concat([]byte{1, 1, 1, 1}, most),
		slices.Concat([]byte{1, 1, 1}, most, []byte{1}),
		slices.Concat([]byte{1, 1}, most, []byte{1, 1}),
		slices.Concat([]byte{1}, most, []byte{1, 1, 1}),
		// 65 bits, whose lowest would be a 1.
		slices.Concat([]byte{1, 1, 1, 1, 129}, nines[:8], []byte{2}),
		slices.Concat([]byte{1, 1, 1, 1}, nines, []byte{255}),
	} {
		if !noSchema(b) {
			t.Errorf("%v is a schema", b)
		}
	}
	for name, s := range bad() {
		if !noSchema(Put(s)) {
			t.Errorf("%s: taken", name)
		}
	}
}

// P4.3: what is taken of bytes that are near a schema's is put as these, or there is none.
func TestTakeOfOneByteChanged(t *testing.T) {
	for _, s := range []api.Schema{plain(1, 1), plain(1, 1, 3), plain(3, 3, 2, 1), {Types: wide(64), Keys: 64, Mode: 3, Grain: 64}} {
		b := Put(s)
		for i := range b {
			if !noSchema(b[:i]) {
				t.Errorf("the first %d bytes of %v are a schema", i, s)
			}
			for c := range 256 {
				changed := slices.Clone(b)
				changed[i] = byte(c)
				got, e := Take(changed)
				may := e == api.OK && Check(got) == api.OK && bytes.Equal(Put(got), changed)
				if !may && !noSchema(changed) || may != mayStand(s, i, c) {
					t.Errorf("%v with %d at %d: %v, %d", s, c, i, got, e)
				}
			}
		}
		for c := range 256 {
			if !noSchema(append(slices.Clone(b), byte(c))) {
				t.Errorf("%v with %d behind it is a schema", s, c)
			}
		}
	}
}

// mayStand tells, by the document's words, whether c at the place i of the bytes of s leaves a schema that may be (all of whose numbers are bytes).
func mayStand(s api.Schema, i, c int) bool {
	cols := len(s.Types)
	switch {
	case i == 0:
		return c == cols
	case i <= cols:
		return c >= 1 && c <= 3
	case i == cols+1:
		return c >= 1 && c <= cols
	case i == cols+2:
		return c >= 1 && c <= 3
	}
	return c >= 1 && c <= 64
}

// P4.4
func TestCompareIsAnOrder(t *testing.T) {
	s := plain(3, api.Int, api.Text, api.Uint, api.Int)
	var rows []api.Row
	for _, a := range []int64{math.MinInt64, -1, 0, 1, math.MaxInt64} {
		for _, b := range []string{"", "\x00", "a", "ab", "b", "\xff"} {
			for _, c := range []int64{0, 1, math.MaxInt64, math.MinInt64, -1} {
				rows = append(rows, api.Row{n(a), text(b), n(c), n(int64(len(rows)))})
			}
		}
	}
	// They are made in order, and no two of one key.
	for i, a := range rows {
		for j, b := range rows {
			want := 0
			if i < j {
				want = -1
			}
			if i > j {
				want = 1
			}
			if got := Compare(s, a, b); got != want {
				t.Fatalf("Compare(%v, %v) = %d, want %d", a, b, got, want)
			}
			other := slices.Clone(b)
			other[3] = n(-7)
			if Compare(s, a, other) != want {
				t.Fatalf("%v and %v: what is not of the key has a say", a, other)
			}
		}
	}
}

// P4.4
func TestWhatWasPutIsTaken(t *testing.T) {
	seen := map[string]bool{}
	for _, s := range good() {
		b := Put(s)
		got, e := Take(b)
		if e != api.OK || !reflect.DeepEqual(got, s) {
			t.Errorf("%v is taken as %v, %d", s, got, e)
		}
		seen[string(b)] = true
	}
	for count := 1; count <= api.MaxCols; count++ {
		for keys := 1; keys <= count; keys++ {
			s := api.Schema{Types: wide(count), Keys: keys, Mode: 1 + count%3, Grain: 65 - count}
			if got, e := Take(Put(s)); e != api.OK || !reflect.DeepEqual(got, s) {
				t.Errorf("%v is taken as %v, %d", s, got, e)
			}
		}
	}
	// Keys is told thrice of one column, and twice of two: those are the same schemas.
	if want := (3*1 + 1*2 + 4*3) * 3 * 4; len(seen) != want {
		t.Errorf("%d schemas have %d ways to be put", want, len(seen))
	}
}

// R7
func TestNothingIsShared(t *testing.T) {
	s := plain(1, api.Int, api.Text)
	a, b := api.Row{n(1), text("a")}, api.Row{n(2), text("b")}
	Check(s)
	Row(s, a)
	Batch(s, []api.Row{a, b})
	Compare(s, a, b)
	put := Put(s)
	kept := slices.Clone(put)
	one, _ := Take(put)
	if !reflect.DeepEqual(s, plain(1, api.Int, api.Text)) || !reflect.DeepEqual(a, api.Row{n(1), text("a")}) || !reflect.DeepEqual(b, api.Row{n(2), text("b")}) || !bytes.Equal(put, kept) {
		t.Error("what is handed in is changed")
	}
	clear(put)
	two, _ := Take(kept)
	two.Types[0] = api.Uint
	if !reflect.DeepEqual(one, s) || !bytes.Equal(Put(s), kept) {
		t.Error("what was told changes")
	}
}
