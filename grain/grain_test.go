package grain

import (
	"math"
	"reflect"
	"slices"
	"strconv"
	"testing"

	"thresher/api"
)

func n(x int64) api.Value     { return api.Value{N: x} }
func text(s string) api.Value { return api.Value{S: s} }

// grained is a schema of three columns, of which two are the key, and of so many rows in a granule.
func grained(grain int) api.Schema {
	return api.Schema{Types: []int{api.Int, api.Text, api.Uint}, Keys: 2, Mode: api.Plain, Grain: grain}
}

// keyed is a schema of four columns, of which so many are the key.
func keyed(keys int) api.Schema {
	return api.Schema{Types: []int{api.Int, api.Text, api.Uint, api.Int}, Keys: keys, Mode: api.Plain, Grain: 2}
}

// row is the row of grained that stands at the place i, and no other one's.
func row(i int) api.Row {
	return api.Row{n(int64(i / 3)), text("k" + strconv.Itoa(i)), n(int64(-i))}
}

// some is so many rows, in order, no two of them the same.
func some(count int) []api.Row {
	out := make([]api.Row, count)
	for i := range out {
		out[i] = row(i)
	}
	return out
}

// rows is the rows of lists of numbers.
func rows(lists ...[]int64) []api.Row {
	out := make([]api.Row, len(lists))
	for i, l := range lists {
		out[i] = values(l...)
	}
	return out
}

// values is numbers as values.
func values(l ...int64) []api.Value {
	out := make([]api.Value, len(l))
	for i, x := range l {
		out[i] = n(x)
	}
	return out
}

// same tells whether a and b are the same lists; one that is empty may be nil.
func same[T any](a, b []T) bool {
	return len(a) == 0 && len(b) == 0 || reflect.DeepEqual(a, b)
}

// counts is numbers of rows about each grain, and about those that the document bounds.
func counts() []int {
	out := []int{api.MaxRows - 1, api.MaxRows}
	for i := range 200 {
		out = append(out, i)
	}
	return out
}

// P10.1
func TestSplit(t *testing.T) {
	for _, x := range []struct {
		count, grain int
		want         []int
	}{
		{0, 1, nil},
		{0, 2, nil},
		{0, 64, nil},
		{1, 1, []int{1}},
		{1, 2, []int{1}},
		{1, 64, []int{1}},
		{2, 1, []int{1, 1}},
		{2, 2, []int{2}},
		{3, 2, []int{2, 1}},
		{4, 2, []int{2, 2}},
		{5, 2, []int{2, 2, 1}},
		{5, 5, []int{5}},
		{5, 4, []int{4, 1}},
		{5, 6, []int{5}},
		{7, 3, []int{3, 3, 1}},
		{8, 3, []int{3, 3, 2}},
		{9, 3, []int{3, 3, 3}},
		{63, 64, []int{63}},
		{64, 64, []int{64}},
		{65, 64, []int{64, 1}},
		{128, 64, []int{64, 64}},
	} {
		var got []int
		for _, granule := range Split(grained(x.grain), some(x.count)) {
			got = append(got, len(granule))
		}
		if !slices.Equal(got, x.want) {
			t.Errorf("%d rows, grain %d: %v, want %v", x.count, x.grain, got, x.want)
		}
	}
	if len(Split(grained(2), nil)) != 0 || len(Split(grained(2), []api.Row{})) != 0 {
		t.Error("of no rows there are granules")
	}
}

// P10.1
func TestSplitOfEachGrain(t *testing.T) {
	for grain := 1; grain <= api.MaxGrain; grain++ {
		for _, count := range counts() {
			got := Split(grained(grain), some(count))
			at := 0
			for i, granule := range got {
				last := i == len(got)-1
				if len(granule) < 1 || len(granule) > grain || !last && len(granule) != grain {
					t.Fatalf("%d rows, grain %d: the granule %d has %d rows", count, grain, i, len(granule))
				}
				for _, r := range granule {
					if !same(r, row(at)) {
						t.Fatalf("%d rows, grain %d: %v stands at %d", count, grain, r, at)
					}
					at++
				}
			}
			if at != count {
				t.Fatalf("%d rows, grain %d: %d are in granules", count, grain, at)
			}
		}
	}
}

// P10.1: rows are cut as they stand, whatever their order, their key and the mode.
func TestOnlyTheGrainHasASay(t *testing.T) {
	l := rows([]int64{3, 1}, []int64{1, 1}, []int64{3, 2}, []int64{1, 1}, []int64{1, 0})
	for _, mode := range []int{api.Plain, api.Replacing, api.Summing} {
		for keys := 1; keys <= 2; keys++ {
			s := api.Schema{Types: []int{api.Int, api.Int}, Keys: keys, Mode: mode, Grain: 3}
			if got := Split(s, l); !same(got, [][]api.Row{l[:3], l[3:]}) {
				t.Errorf("mode %d, %d keys: %v", mode, keys, got)
			}
		}
	}
}

// P10.1
func TestKey(t *testing.T) {
	whole := api.Row{n(-7), text("a"), n(-1), n(4)}
	for keys := 1; keys <= 4; keys++ {
		want := api.Row{n(-7), text("a"), n(-1), n(4)}[:keys]
		if got := Key(keyed(keys), whole); !same(got, want) {
			t.Errorf("of %d keys: %v, want %v", keys, got, want)
		}
	}
	for _, x := range []struct {
		types []int
		r     api.Row
		want  api.Row
	}{
		{[]int{api.Int}, api.Row{n(math.MinInt64)}, api.Row{n(math.MinInt64)}},
		{[]int{api.Text}, api.Row{text("")}, api.Row{text("")}},
		{[]int{api.Text, api.Int}, api.Row{text("\x00\xff"), n(1)}, api.Row{text("\x00\xff")}},
	} {
		if got := Key(api.Schema{Types: x.types, Keys: 1, Mode: api.Plain, Grain: 1}, x.r); !same(got, x.want) {
			t.Errorf("%v: %v, want %v", x.r, got, x.want)
		}
	}
}

// P10.1: as many columns as there may be, with each number of keys.
func TestKeyOfWideRows(t *testing.T) {
	types := slices.Repeat([]int{api.Int}, api.MaxCols)
	wide := make(api.Row, api.MaxCols)
	for i := range wide {
		wide[i] = n(int64(i))
	}
	for keys := 1; keys <= api.MaxCols; keys++ {
		s := api.Schema{Types: types, Keys: keys, Mode: api.Summing, Grain: 1}
		if got := Key(s, wide); !same(got, wide[:keys]) {
			t.Errorf("of %d keys: %v", keys, got)
		}
	}
}

// P10.1
func TestMarks(t *testing.T) {
	l := []api.Row{
		{n(1), text("a"), n(9), n(0)},
		{n(1), text("b"), n(8), n(1)},
		{n(1), text("b"), n(8), n(2)},
		{n(2), text(""), n(-1), n(3)},
		{n(5), text("c"), n(0), n(4)},
	}
	for _, x := range []struct {
		keys, grain int
		want        []api.Row
	}{
		{1, 1, []api.Row{{n(1)}, {n(1)}, {n(1)}, {n(2)}, {n(5)}}},
		{1, 2, []api.Row{{n(1)}, {n(1)}, {n(5)}}},
		{1, 3, []api.Row{{n(1)}, {n(2)}}},
		{1, 4, []api.Row{{n(1)}, {n(5)}}},
		{1, 5, []api.Row{{n(1)}}},
		{1, 64, []api.Row{{n(1)}}},
		{2, 2, []api.Row{{n(1), text("a")}, {n(1), text("b")}, {n(5), text("c")}}},
		{3, 3, []api.Row{{n(1), text("a"), n(9)}, {n(2), text(""), n(-1)}}},
		{4, 4, []api.Row{{n(1), text("a"), n(9), n(0)}, {n(5), text("c"), n(0), n(4)}}},
	} {
		s := keyed(x.keys)
		s.Grain = x.grain
		if got := Marks(s, l); !same(got, x.want) {
			t.Errorf("%d keys, grain %d: %v, want %v", x.keys, x.grain, got, x.want)
		}
		if len(Marks(s, nil)) != 0 || len(Marks(s, []api.Row{})) != 0 {
			t.Errorf("%d keys, grain %d: of no rows there are marks", x.keys, x.grain)
		}
	}
}

// P10.1: the first row's of each granule, which is not the least of rows in no order.
func TestMarksOfEachGrain(t *testing.T) {
	for grain := 1; grain <= api.MaxGrain; grain++ {
		for _, count := range counts() {
			l := some(count)
			slices.Reverse(l)
			got := Marks(grained(grain), l)
			if len(got) != (count+grain-1)/grain {
				t.Fatalf("%d rows, grain %d: %d marks", count, grain, len(got))
			}
			for i, mark := range got {
				if want := l[i*grain][:2]; !same(mark, want) {
					t.Fatalf("%d rows, grain %d: the mark %d is %v, want %v", count, grain, i, mark, want)
				}
			}
		}
	}
}

// P10.2
func TestColumn(t *testing.T) {
	l := some(7)
	for at := range 3 {
		var want []api.Value
		for i := range 7 {
			want = append(want, row(i)[at])
		}
		if got := Column(l, at); !same(got, want) {
			t.Errorf("at %d: %v, want %v", at, got, want)
		}
	}
	for _, at := range []int{-1, -3, 3, 4, math.MinInt, math.MaxInt} {
		if got := Column(l, at); len(got) != 0 {
			t.Errorf("at %d: %v", at, got)
		}
	}
	for _, at := range []int{-1, 0, 1, math.MinInt, math.MaxInt} {
		if len(Column(nil, at)) != 0 || len(Column([]api.Row{}, at)) != 0 {
			t.Errorf("at %d no rows have values", at)
		}
	}
}

// P10.2: one row without the place is enough, wherever it stands; more values than the others do no harm.
func TestColumnOfUnevenRows(t *testing.T) {
	for _, x := range []struct {
		l    []api.Row
		at   int
		want []api.Value
	}{
		{rows([]int64{1}, []int64{2, 3}, []int64{4, 5}), 1, nil},
		{rows([]int64{1, 2}, []int64{3}, []int64{4, 5}), 1, nil},
		{rows([]int64{1, 2}, []int64{3, 4}, []int64{5}), 1, nil},
		{rows([]int64{1, 2}, []int64{3}, []int64{4, 5}), 0, values(1, 3, 4)},
		{rows([]int64{1, 2}, []int64{3, 4, 5}, []int64{6, 7, 8, 9}), 1, values(2, 4, 7)},
		{rows([]int64{1, 2}, []int64{3, 4, 5}, []int64{6, 7, 8, 9}), 2, nil},
		{[]api.Row{nil}, 0, nil},
		{[]api.Row{{}}, 0, nil},
		{[]api.Row{{n(1)}, nil}, 0, nil},
		{[]api.Row{nil, {n(1)}}, 0, nil},
		{[]api.Row{{n(1)}, {}, {n(2)}}, 0, nil},
		// What stands behind a row's end is not of it.
		{[]api.Row{values(1, 2)[:1], values(3, 4)}, 1, nil},
	} {
		if got := Column(x.l, x.at); !same(got, x.want) {
			t.Errorf("%v at %d: %v, want %v", x.l, x.at, got, x.want)
		}
	}
}

// P10.2
func TestRows(t *testing.T) {
	for _, x := range []struct {
		cols [][]api.Value
		want []api.Row
		is   bool
	}{
		{nil, nil, false},
		{[][]api.Value{}, nil, false},
		{[][]api.Value{nil}, nil, true},
		{[][]api.Value{{}}, nil, true},
		{[][]api.Value{{}, {}}, nil, true},
		{[][]api.Value{{}, nil, {}}, nil, true},
		{[][]api.Value{values(5)}, rows([]int64{5}), true},
		{[][]api.Value{values(5, 6, 7)}, rows([]int64{5}, []int64{6}, []int64{7}), true},
		{[][]api.Value{values(5), values(6), values(7)}, rows([]int64{5, 6, 7}), true},
		{[][]api.Value{values(1, 2, 3), values(4, 5, 6)}, rows([]int64{1, 4}, []int64{2, 5}, []int64{3, 6}), true},
		{[][]api.Value{values(1, 2), values(3, 4), values(5, 6)}, rows([]int64{1, 3, 5}, []int64{2, 4, 6}), true},
		{[][]api.Value{values(1, 2), {text("a"), text("")}}, []api.Row{{n(1), text("a")}, {n(2), text("")}}, true},
		{[][]api.Value{values(1), {}}, nil, false},
		{[][]api.Value{{}, values(1)}, nil, false},
		{[][]api.Value{values(1), nil}, nil, false},
		{[][]api.Value{nil, values(1)}, nil, false},
		{[][]api.Value{values(1, 2), values(3, 4, 5)}, nil, false},
		{[][]api.Value{values(1, 2, 3), values(4, 5)}, nil, false},
		{[][]api.Value{values(1, 2), values(3), values(4, 5)}, nil, false},
		{[][]api.Value{values(1, 2), values(3, 4), values(5)}, nil, false},
		{[][]api.Value{values(1, 2), values(3, 4), values(5, 6, 7)}, nil, false},
		{[][]api.Value{values(1), values(2, 3), values(4, 5)}, nil, false},
		// What stands behind a column's end is not of it.
		{[][]api.Value{values(1, 2), values(3, 4)[:1]}, nil, false},
	} {
		got, is := Rows(x.cols)
		if is != x.is || !same(got, x.want) {
			t.Errorf("%v: %v, %v, want %v, %v", x.cols, got, is, x.want, x.is)
		}
	}
}

// P10.3
func TestGranulesAreTheRows(t *testing.T) {
	for grain := 1; grain <= api.MaxGrain; grain++ {
		for _, count := range counts() {
			l := some(count)
			if got := slices.Concat(Split(grained(grain), l)...); !same(got, l) {
				t.Fatalf("%d rows, grain %d: one behind the other they are %d other ones", count, grain, len(got))
			}
		}
	}
}

// columns is the columns of l, of which each row has as many values.
func columns(l []api.Row, wide int) [][]api.Value {
	out := make([][]api.Value, wide)
	for at := range out {
		out[at] = Column(l, at)
	}
	return out
}

// P10.3
func TestColumnsAreRowsAgain(t *testing.T) {
	for wide := 1; wide <= api.MaxCols; wide += 1 + wide/4 {
		for _, count := range []int{0, 1, 2, 3, 64, 100, api.MaxRows} {
			l := make([]api.Row, count)
			for i := range l {
				for at := range wide {
					l[i] = append(l[i], n(int64(i*wide+at)))
				}
			}
			cols := columns(l, wide)
			got, ok := Rows(cols)
			if !ok || !same(got, l) {
				t.Fatalf("%d rows of %d columns are %d other ones", count, wide, len(got))
			}
			if count > 0 && !same(columns(got, wide), cols) {
				t.Fatalf("%d rows of %d columns have other columns", count, wide)
			}
		}
	}
}

// P10.3: granule by granule, as a part is written.
func TestColumnsOfGranulesAreRowsAgain(t *testing.T) {
	l := some(150)
	for grain := 1; grain <= api.MaxGrain; grain++ {
		var all []api.Row
		for _, granule := range Split(grained(grain), l) {
			got, ok := Rows(columns(granule, 3))
			if !ok {
				t.Fatalf("grain %d: the columns of %v are no rows", grain, granule)
			}
			all = append(all, got...)
		}
		if !same(all, l) {
			t.Fatalf("grain %d: other rows", grain)
		}
	}
}

// R7
func TestNothingHandedInIsChanged(t *testing.T) {
	// Behind what is handed in there is more of the caller's.
	whole := some(9)
	l := whole[:7]
	s := grained(3)
	Split(s, l)
	Marks(s, l)
	Key(s, l[0])
	cols := columns(l, 3)
	Rows(cols)
	if !same(whole, some(9)) || !reflect.DeepEqual(s, grained(3)) || !same(cols, columns(some(7), 3)) {
		t.Error("what is handed in is changed")
	}
}

// R7: a granule's list is the caller's own, and no two of them run into each other.
func TestGranulesAreTheCallers(t *testing.T) {
	for grain := 1; grain <= 8; grain++ {
		whole := some(9)
		got := Split(grained(grain), whole[:7])
		for i := range got {
			got[i] = append(got[i], row(99), row(98))
		}
		for i, granule := range got {
			end := min((i+1)*grain, 7)
			want := append(slices.Clone(some(9)[i*grain:end]), row(99), row(98))
			if !same(granule, want) {
				t.Errorf("grain %d: the granule %d becomes %v", grain, i, granule)
			}
		}
		for _, granule := range Split(grained(grain), whole[:7]) {
			clear(granule)
		}
		if !same(whole, some(9)) {
			t.Errorf("grain %d: what was handed in is changed by what becomes of the answer", grain)
		}
		kept := Split(grained(grain), whole[:7])
		clear(whole)
		if !same(slices.Concat(kept...), some(7)) {
			t.Errorf("grain %d: what was told is changed by what becomes of the list handed in", grain)
		}
	}
}

// R7: what is put behind a key is not put in its row.
func TestKeysDoNotRunIntoTheirRows(t *testing.T) {
	for grain := 1; grain <= 8; grain++ {
		l := some(7)
		s := grained(grain)
		for _, mark := range Marks(s, l) {
			_ = append(mark, n(77), n(78))
		}
		for _, r := range l {
			_ = append(Key(s, r), n(77))
			_ = append(Key(keyed(1), r), text("x"), n(77), n(78))
		}
		marks := Marks(s, l)
		clear(marks)
		if !same(l, some(7)) {
			t.Errorf("grain %d: the rows become %v", grain, l)
		}
	}
}

// R7: columns and rows of columns are the caller's own, each of them.
func TestColumnsAndRowsAreTheCallers(t *testing.T) {
	l := some(7)
	cols := columns(l, 3)
	got, _ := Rows(cols)
	other, _ := Rows(cols)
	for i := range other {
		_ = append(other[i], n(77))
		other[i][0] = n(78)
		if i > 0 && !same(other[i-1][1:], row(i - 1)[1:]) || i < 6 && !same(other[i+1], row(i+1)) {
			t.Fatalf("what becomes of the row %d changes another one", i)
		}
	}
	if !same(got, some(7)) || !same(cols, columns(some(7), 3)) {
		t.Error("what becomes of an answer of Rows is seen elsewhere")
	}
	for _, col := range cols {
		clear(col)
	}
	if !same(got, some(7)) || !same(l, some(7)) {
		t.Error("what becomes of a column is seen elsewhere")
	}
}

// R1, R6: what is not asked for does no harm, and is told alike each time.
func TestWhatIsNotAskedFor(t *testing.T) {
	lists := [][]api.Row{
		nil,
		{},
		{nil},
		{nil, {}, nil},
		{{n(2)}, nil, {n(1), text("a")}, {}, {{N: 1, S: "x"}}},
		some(5),
	}
	for _, odd := range []int{math.MinInt, -1, 0, 1, 2, 65, 99, math.MaxInt} {
		for _, l := range lists {
			for _, s := range []api.Schema{
				{Keys: odd},
				{Grain: odd},
				{Keys: odd, Grain: odd},
				{Keys: odd, Grain: 2, Mode: odd},
				{Types: []int{api.Int}, Keys: 1, Mode: api.Plain, Grain: odd},
				{Types: []int{0, 4, -1}, Keys: odd, Grain: 1},
			} {
				granules, marks := Split(s, l), Marks(s, l)
				if !same(granules, Split(s, l)) || !same(marks, Marks(s, l)) || len(marks) != len(granules) {
					t.Errorf("%v, %v: %v, %v", s, l, granules, marks)
				}
				if s.Grain > 0 && !same(slices.Concat(granules...), l) || s.Grain < 1 && len(granules) != 0 {
					t.Errorf("%v, %v: %v", s, l, granules)
				}
				for i, mark := range marks {
					if !same(mark, Key(s, granules[i][0])) {
						t.Errorf("%v, %v: the mark %d is %v", s, l, i, mark)
					}
				}
			}
		}
	}
}

// R1: a key has no more values than its row, and none of a schema without keys.
func TestKeyOfWhatMayNotBe(t *testing.T) {
	short := api.Row{n(1), text("a")}
	for _, x := range []struct {
		keys int
		r    api.Row
		want api.Row
	}{
		{0, short, nil},
		{-1, short, nil},
		{math.MinInt, short, nil},
		{3, short, short},
		{math.MaxInt, short, short},
		{1, nil, nil},
		{1, api.Row{}, nil},
		{3, append(slices.Clone(short), n(9))[:2], short},
	} {
		if got := Key(keyed(x.keys), x.r); !same(got, x.want) {
			t.Errorf("%d keys, %v: %v, want %v", x.keys, x.r, got, x.want)
		}
	}
}
