package index

import (
	"cmp"
	"math"
	"reflect"
	"slices"
	"testing"

	"thresher/api"
	"thresher/grain"
	"thresher/order"
)

func n(x int64) api.Value     { return api.Value{N: x} }
func text(s string) api.Value { return api.Value{S: s} }

// key is numbers as a key, or as the beginning of one.
func key(l ...int64) api.Row {
	out := make(api.Row, len(l))
	for i, x := range l {
		out[i] = n(x)
	}
	return out
}

// rows is the rows of lists of numbers.
func rows(lists ...[]int64) []api.Row {
	out := make([]api.Row, len(lists))
	for i, l := range lists {
		out[i] = key(l...)
	}
	return out
}

// ones is rows of one number each.
func ones(l ...int64) []api.Row {
	out := make([]api.Row, len(l))
	for i, x := range l {
		out[i] = key(x)
	}
	return out
}

// ranges of both ends, of one, and of none.
func both(lo, hi api.Row) api.Range { return api.Range{HasLo: true, HasHi: true, Lo: lo, Hi: hi} }
func lower(lo api.Row) api.Range    { return api.Range{HasLo: true, Lo: lo} }
func upper(hi api.Row) api.Range    { return api.Range{HasHi: true, Hi: hi} }

// keyed is a schema of so many keys, of these types.
func keyed(keys int, types ...int) api.Schema {
	return api.Schema{Types: types, Keys: keys, Mode: api.Plain, Grain: 2}
}

var (
	single = keyed(1, api.Int)
	pair   = keyed(2, api.Int, api.Int)
	triple = keyed(2, api.Int, api.Text, api.Uint)
)

// compare is the order of a and b, worked out by the document's words: by the key's columns that both have.
func compare(s api.Schema, a, b api.Row) int {
	for i := range min(s.Keys, len(a), len(b)) {
		c := cmp.Compare(a[i].N, b[i].N)
		switch s.Types[i] {
		case api.Uint:
			c = cmp.Compare(uint64(a[i].N), uint64(b[i].N))
		case api.Text:
			c = cmp.Compare(a[i].S, b[i].S)
		}
		if c != 0 {
			return c
		}
	}
	return 0
}

// isIn is In by the document's words.
func isIn(s api.Schema, r api.Range, row api.Row) bool {
	return !(r.HasLo && compare(s, row, r.Lo) < 0) && !(r.HasHi && compare(s, row, r.Hi) > 0)
}

// isEmpty is Empty by the document's words.
func isEmpty(s api.Schema, r api.Range) bool {
	return r.HasLo && r.HasHi && compare(s, r.Lo, r.Hi) > 0
}

// met is the granules that Meets tells, one by one, by the document's words.
func met(s api.Schema, marks []api.Row, r api.Range) []int {
	var out []int
	for i, mark := range marks {
		notAbove := !r.HasHi || compare(s, mark, r.Hi) <= 0
		last := i == len(marks)-1
		if !isEmpty(s, r) && notAbove && (last || !r.HasLo || compare(s, marks[i+1], r.Lo) >= 0) {
			out = append(out, i)
		}
	}
	return out
}

// told is the granules from from on, up to but not to.
func told(from, to int) []int {
	var out []int
	for i := from; i < to; i++ {
		out = append(out, i)
	}
	return out
}

// ends is each range whose ends are of l, and those of one end, and of none.
func ends(l []api.Row) []api.Range {
	out := []api.Range{{}}
	for _, lo := range l {
		out = append(out, lower(lo), upper(lo))
		for _, hi := range l {
			out = append(out, both(lo, hi))
		}
	}
	return out
}

// keys is keys of triple, whole ones and beginnings, none too.
func keys() []api.Row {
	out := []api.Row{nil, {}}
	for _, x := range []int64{math.MinInt64, -1, 0, 1, 2, math.MaxInt64} {
		out = append(out, key(x))
		for _, s := range []string{"", "a", "ab", "b", "\xff"} {
			out = append(out, api.Row{n(x), text(s)})
		}
	}
	return out
}

// whole is rows of triple in order: each of its keys some times, with other values behind the key.
func whole() []api.Row {
	var out []api.Row
	for i, k := range keys() {
		if len(k) != 2 || i%7 == 3 {
			continue
		}
		for j := range 1 + i%4 {
			out = append(out, api.Row{k[0], k[1], n(int64(99 - j))})
		}
	}
	return out
}

// P12.1
func TestIn(t *testing.T) {
	for _, x := range []struct {
		s   api.Schema
		r   api.Range
		row api.Row
		in  bool
	}{
		{single, api.Range{}, key(5), true},
		{single, lower(key(5)), key(4), false},
		{single, lower(key(5)), key(5), true},
		{single, lower(key(5)), key(6), true},
		{single, upper(key(5)), key(4), true},
		{single, upper(key(5)), key(5), true},
		{single, upper(key(5)), key(6), false},
		{single, both(key(-2), key(2)), key(-3), false},
		{single, both(key(-2), key(2)), key(-2), true},
		{single, both(key(-2), key(2)), key(0), true},
		{single, both(key(-2), key(2)), key(2), true},
		{single, both(key(-2), key(2)), key(3), false},
		{single, both(key(5), key(5)), key(4), false},
		{single, both(key(5), key(5)), key(5), true},
		{single, both(key(5), key(5)), key(6), false},
		{single, both(key(6), key(4)), key(4), false},
		{single, both(key(6), key(4)), key(5), false},
		{single, both(key(6), key(4)), key(6), false},
		{single, both(key(math.MinInt64), key(math.MaxInt64)), key(math.MinInt64), true},
		{single, both(key(math.MinInt64), key(math.MaxInt64)), key(math.MaxInt64), true},
		{keyed(1, api.Uint), lower(key(1)), key(-1), true},
		{keyed(1, api.Uint), upper(key(1)), key(-1), false},
		{keyed(1, api.Text), lower(api.Row{text("ab")}), api.Row{text("a")}, false},
		{keyed(1, api.Text), lower(api.Row{text("ab")}), api.Row{text("ab")}, true},
		{keyed(1, api.Text), upper(api.Row{text("ab")}), api.Row{text("ab\x00")}, false},
		{keyed(1, api.Text), upper(api.Row{text("")}), api.Row{text("")}, true},
		// Whole keys.
		{pair, lower(key(1, 5)), key(1, 4), false},
		{pair, lower(key(1, 5)), key(1, 5), true},
		{pair, lower(key(1, 5)), key(2, 0), true},
		{pair, lower(key(1, 5)), key(0, 9), false},
		{pair, upper(key(1, 5)), key(1, 5), true},
		{pair, upper(key(1, 5)), key(1, 6), false},
		{pair, upper(key(1, 5)), key(0, 9), true},
		// Ends of fewer values than a key are of these alone.
		{pair, lower(key(1)), key(1, math.MinInt64), true},
		{pair, lower(key(1)), key(0, math.MaxInt64), false},
		{pair, upper(key(1)), key(1, math.MaxInt64), true},
		{pair, upper(key(1)), key(2, math.MinInt64), false},
		{pair, both(key(1), key(1)), key(1, 7), true},
		{pair, both(nil, nil), key(1, 7), true},
		{pair, both(api.Row{}, api.Row{}), key(1, 7), true},
		{pair, both(nil, key(0)), key(1, 7), false},
		{pair, both(key(2), nil), key(1, 7), false},
		// What is behind the key has no say.
		{keyed(1, api.Int, api.Int), both(key(1, 5), key(1, 5)), key(1, 9), true},
		{keyed(1, api.Int, api.Int), both(key(1, 5), key(1, 5)), key(1, 2), true},
	} {
		if got := In(x.s, x.r, x.row); got != x.in {
			t.Errorf("%v, %v: %v, want %v", x.r, x.row, got, x.in)
		}
	}
}

// P12.1: an end that is not asked for is none, whatever stands there.
func TestEndsThatAreNotAskedFor(t *testing.T) {
	for _, x := range []struct {
		r  api.Range
		in bool
	}{
		{api.Range{Lo: key(9), Hi: key(1)}, true},
		{api.Range{Lo: key(9)}, true},
		{api.Range{Hi: key(1)}, true},
		{api.Range{HasLo: true, Lo: key(5), Hi: key(1)}, true},
		{api.Range{HasHi: true, Lo: key(9), Hi: key(5)}, true},
		{api.Range{HasLo: true, Lo: key(6), Hi: key(9)}, false},
		{api.Range{HasHi: true, Lo: key(1), Hi: key(4)}, false},
	} {
		if got := In(single, x.r, key(5)); got != x.in {
			t.Errorf("%v: %v, want %v", x.r, got, x.in)
		}
		if Empty(single, x.r) {
			t.Errorf("%v is empty", x.r)
		}
	}
}

// P12.1
func TestEmpty(t *testing.T) {
	for _, x := range []struct {
		s     api.Schema
		r     api.Range
		empty bool
	}{
		{single, api.Range{}, false},
		{single, lower(key(5)), false},
		{single, upper(key(5)), false},
		{single, lower(key(math.MaxInt64)), false},
		{single, upper(key(math.MinInt64)), false},
		{single, both(key(4), key(5)), false},
		{single, both(key(5), key(5)), false},
		{single, both(key(6), key(5)), true},
		{single, both(key(math.MaxInt64), key(math.MinInt64)), true},
		{single, both(nil, nil), false},
		{single, both(nil, key(1)), false},
		{single, both(key(1), nil), false},
		{keyed(1, api.Uint), both(key(-1), key(1)), true},
		{keyed(1, api.Uint), both(key(1), key(-1)), false},
		{keyed(1, api.Text), both(api.Row{text("b")}, api.Row{text("ab")}), true},
		{keyed(1, api.Text), both(api.Row{text("a")}, api.Row{text("ab")}), false},
		{pair, both(key(1, 5), key(1, 5)), false},
		{pair, both(key(1, 5), key(1, 4)), true},
		{pair, both(key(2, 0), key(1, 9)), true},
		{pair, both(key(1, 9), key(2, 0)), false},
		{pair, both(key(3), key(2, 9)), true},
		{pair, both(key(3, 0), key(2)), true},
		{pair, both(key(2), key(2, 0)), false},
		{pair, both(key(2, 9), key(2)), false},
		{keyed(1, api.Int, api.Int), both(key(1, 9), key(1, 2)), false},
	} {
		if got := Empty(x.s, x.r); got != x.empty {
			t.Errorf("%v: %v, want %v", x.r, got, x.empty)
		}
	}
}

// P12.1
func TestInAndEmptyAsTheWordsSay(t *testing.T) {
	l := whole()
	for _, r := range ends(keys()) {
		if got, want := Empty(triple, r), isEmpty(triple, r); got != want {
			t.Fatalf("%v: %v, want %v", r, got, want)
		}
		for _, row := range l {
			got, want := In(triple, r, row), isIn(triple, r, row)
			if got != want {
				t.Fatalf("%v, %v: %v, want %v", r, row, got, want)
			}
			if got && Empty(triple, r) {
				t.Fatalf("%v is empty, and has %v", r, row)
			}
		}
	}
}

// P12.2
func TestMeets(t *testing.T) {
	for _, x := range []struct {
		s        api.Schema
		marks    []api.Row
		r        api.Range
		from, to int
	}{
		// The document's own.
		{single, ones(0, 10, 20), both(key(12), key(15)), 1, 2},
		{single, ones(0, 10, 20), both(key(10), key(10)), 0, 2},
		// About each mark.
		{single, ones(0, 10, 20), api.Range{}, 0, 3},
		{single, ones(0, 10, 20), lower(key(-1)), 0, 3},
		{single, ones(0, 10, 20), lower(key(0)), 0, 3},
		{single, ones(0, 10, 20), lower(key(9)), 0, 3},
		{single, ones(0, 10, 20), lower(key(10)), 0, 3},
		{single, ones(0, 10, 20), lower(key(11)), 1, 3},
		{single, ones(0, 10, 20), lower(key(20)), 1, 3},
		{single, ones(0, 10, 20), lower(key(21)), 2, 3},
		{single, ones(0, 10, 20), lower(key(math.MaxInt64)), 2, 3},
		{single, ones(0, 10, 20), upper(key(math.MinInt64)), 0, 0},
		{single, ones(0, 10, 20), upper(key(-1)), 0, 0},
		{single, ones(0, 10, 20), upper(key(0)), 0, 1},
		{single, ones(0, 10, 20), upper(key(9)), 0, 1},
		{single, ones(0, 10, 20), upper(key(10)), 0, 2},
		{single, ones(0, 10, 20), upper(key(19)), 0, 2},
		{single, ones(0, 10, 20), upper(key(20)), 0, 3},
		{single, ones(0, 10, 20), both(key(-5), key(-1)), 0, 0},
		{single, ones(0, 10, 20), both(key(-5), key(0)), 0, 1},
		{single, ones(0, 10, 20), both(key(1), key(9)), 0, 1},
		{single, ones(0, 10, 20), both(key(0), key(0)), 0, 1},
		{single, ones(0, 10, 20), both(key(20), key(20)), 1, 3},
		{single, ones(0, 10, 20), both(key(21), key(22)), 2, 3},
		{single, ones(0, 10, 20), both(key(-1), key(99)), 0, 3},
		// Ends that are the wrong way round, though a granule has keys about them.
		{single, ones(0, 10, 20), both(key(15), key(12)), 0, 0},
		{single, ones(0, 10, 20), both(key(30), key(25)), 0, 0},
		{single, ones(0, 10, 20), both(key(30), key(-5)), 0, 0},
		{single, ones(0, 10, 20), both(key(10), key(9)), 0, 0},
		// Ends that are not asked for.
		{single, ones(0, 10, 20), api.Range{Lo: key(99), Hi: key(-9)}, 0, 3},
		{single, ones(0, 10, 20), api.Range{HasLo: true, Lo: key(15), Hi: key(-9)}, 1, 3},
		{single, ones(0, 10, 20), api.Range{HasHi: true, Lo: key(99), Hi: key(15)}, 0, 2},
		// Marks that are the same: rows of one key run over some granules.
		{single, ones(0, 10, 10, 10, 20), both(key(10), key(10)), 0, 4},
		{single, ones(0, 10, 10, 10, 20), both(key(11), key(11)), 3, 4},
		{single, ones(0, 10, 10, 10, 20), both(key(9), key(9)), 0, 1},
		{single, ones(10, 10, 10), both(key(10), key(10)), 0, 3},
		{single, ones(10, 10, 10), lower(key(11)), 2, 3},
		{single, ones(10, 10, 10), upper(key(9)), 0, 0},
		// One granule, and none.
		{single, ones(10), api.Range{}, 0, 1},
		{single, ones(10), lower(key(99)), 0, 1},
		{single, ones(10), upper(key(10)), 0, 1},
		{single, ones(10), upper(key(9)), 0, 0},
		{single, ones(10), both(key(11), key(9)), 0, 0},
		{single, nil, api.Range{}, 0, 0},
		{single, nil, lower(key(1)), 0, 0},
		{single, []api.Row{}, both(key(1), key(2)), 0, 0},
		// Keys of two values, and ends of one.
		{pair, rows([]int64{1, 1}, []int64{1, 5}, []int64{2, 1}), both(key(1), key(1)), 0, 2},
		{pair, rows([]int64{1, 1}, []int64{1, 5}, []int64{2, 1}), both(key(1, 5), key(1)), 0, 2},
		{pair, rows([]int64{1, 1}, []int64{1, 5}, []int64{2, 1}), both(key(1, 6), key(1)), 1, 2},
		{pair, rows([]int64{1, 1}, []int64{1, 5}, []int64{2, 1}), both(key(1), key(1, 4)), 0, 1},
		{pair, rows([]int64{1, 1}, []int64{1, 5}, []int64{2, 1}), both(key(2), key(2)), 1, 3},
		{pair, rows([]int64{1, 1}, []int64{1, 5}, []int64{2, 1}), both(key(2, 2), key(2)), 2, 3},
		{pair, rows([]int64{1, 1}, []int64{1, 5}, []int64{2, 1}), both(key(2), key(2, 0)), 1, 2},
		{pair, rows([]int64{1, 1}, []int64{1, 5}, []int64{2, 1}), both(nil, nil), 0, 3},
		{pair, rows([]int64{1, 1}, []int64{1, 5}, []int64{2, 1}), both(nil, key(0)), 0, 0},
		{pair, rows([]int64{1, 1}, []int64{1, 5}, []int64{2, 1}), both(key(3), nil), 2, 3},
		// Numbers without a sign, and texts.
		{keyed(1, api.Uint), ones(0, 10, -1), lower(key(-2)), 1, 3},
		{keyed(1, api.Uint), ones(0, 10, -1), upper(key(-2)), 0, 2},
		{keyed(1, api.Text), []api.Row{{text("")}, {text("ab")}, {text("b")}}, both(api.Row{text("a")}, api.Row{text("aa")}), 0, 1},
		{keyed(1, api.Text), []api.Row{{text("")}, {text("ab")}, {text("b")}}, both(api.Row{text("abc")}, api.Row{text("abc")}), 1, 2},
	} {
		from, to := Meets(x.s, x.marks, x.r)
		if from != x.from || to != x.to {
			t.Errorf("%v, %v: %d, %d, want %d, %d", x.marks, x.r, from, to, x.from, x.to)
		}
	}
}

// P12.2: each range about each few marks, as the document's words say.
func TestMeetsAsTheWordsSay(t *testing.T) {
	var near []api.Row
	for x := int64(-1); x <= 7; x++ {
		near = append(near, key(x))
	}
	all := append(ends(near), both(nil, nil), both(nil, key(3)), both(key(3), nil))
	for count := range 7 {
		for pick := range 1 << (2 * count) {
			// Each mark is 0 to 3 above the one ahead.
			var marks []api.Row
			for i, x := 0, int64(0); i < count; i++ {
				x += int64(pick >> (2 * i) & 3)
				marks = append(marks, key(x))
			}
			if count > 4 && pick%37 != 0 {
				continue
			}
			for _, r := range all {
				from, to := Meets(single, marks, r)
				if want := met(single, marks, r); !slices.Equal(told(from, to), want) || len(want) == 0 && (from != 0 || to != 0) {
					t.Fatalf("%v, %v: %d, %d, want %v", marks, r, from, to, want)
				}
			}
		}
	}
}

// P12.2: keys of a number and a text, and ends of fewer values.
func TestMeetsOfPartsOfKeys(t *testing.T) {
	l := whole()
	all := ends(keys())
	for size := 1; size <= 5; size++ {
		s := triple
		s.Grain = size
		marks := grain.Marks(s, l)
		for _, r := range all {
			from, to := Meets(s, marks, r)
			if want := met(s, marks, r); !slices.Equal(told(from, to), want) || len(want) == 0 && (from != 0 || to != 0) {
				t.Fatalf("grain %d, %v: %d, %d, want %v", size, r, from, to, want)
			}
		}
	}
}

// P12.2: as many granules as there may be.
func TestMeetsOfManyMarks(t *testing.T) {
	marks := make([]api.Row, api.MaxRows)
	for i := range marks {
		marks[i] = key(int64(i / 3))
	}
	for lo := int64(-2); lo < api.MaxRows/3+3; lo += 7 {
		for _, r := range []api.Range{lower(key(lo)), upper(key(lo)), both(key(lo), key(lo)), both(key(lo), key(lo+5)), both(key(lo), key(lo-1))} {
			from, to := Meets(single, marks, r)
			if want := met(single, marks, r); !slices.Equal(told(from, to), want) {
				t.Fatalf("%v: %d, %d, want %v", r, from, to, want)
			}
		}
	}
}

// P12.3
func TestRowsThatAreInAreOfAGranuleThatIsTold(t *testing.T) {
	l := whole()
	if !order.Sorted(triple, l) {
		t.Fatal("the rows are in no order")
	}
	for size := 1; size <= 9; size++ {
		s := triple
		s.Grain = size
		granules, marks := grain.Split(s, l), grain.Marks(s, l)
		for _, r := range ends(keys()) {
			from, to := Meets(s, marks, r)
			for i, granule := range granules {
				for _, row := range granule {
					if In(s, r, row) && (i < from || i >= to) {
						t.Fatalf("grain %d, %v: %v is of the granule %d, told are %d to %d", size, r, row, i, from, to)
					}
				}
			}
		}
	}
}

// P12.3: one granule more than must be, at the beginning, and this only if the key before Lo is in it.
func TestNoMoreGranulesThanOne(t *testing.T) {
	l := whole()
	for size := 1; size <= 9; size++ {
		s := triple
		s.Grain = size
		granules, marks := grain.Split(s, l), grain.Marks(s, l)
		for _, r := range ends(keys()) {
			from, to := Meets(s, marks, r)
			for i := from; i < to; i++ {
				if slices.ContainsFunc(granules[i], func(row api.Row) bool { return In(s, r, row) }) {
					continue
				}
				before := order.Below(s, l, r.Lo) - 1
				if i != from || !r.HasLo || before < 0 || before/size != i {
					t.Fatalf("grain %d, %v: the granule %d of %d to %d has no row, nor the one before Lo", size, r, i, from, to)
				}
			}
		}
	}
}

// R7
func TestNothingHandedInIsChanged(t *testing.T) {
	made := func() (api.Schema, []api.Row, api.Range) {
		marks := []api.Row{{n(0), text("a")}, {n(1), text("")}, {n(1), text("b")}, {n(9), text("z")}}
		return keyed(2, api.Int, api.Text, api.Int), marks, both(api.Row{n(1), text("a")}, key(2))
	}
	s, marks, r := made()
	Meets(s, marks, r)
	Empty(s, r)
	for _, mark := range marks {
		In(s, r, mark)
	}
	s1, marks1, r1 := made()
	if !reflect.DeepEqual(s, s1) || !reflect.DeepEqual(marks, marks1) || !reflect.DeepEqual(r, r1) {
		t.Errorf("what is handed in becomes %v, %v, %v", s, marks, r)
	}
}

// R1, R6: what is not asked for does no harm, and is told alike each time.
func TestWhatIsNotAskedFor(t *testing.T) {
	lists := [][]api.Row{
		nil,
		{nil},
		{nil, {}, nil},
		{{n(2)}, nil, {n(1), text("a")}, {}, {{N: 1, S: "x"}}},
		ones(9, 8, 7, 6, 5, 4, 3, 2, 1),
		ones(3, 1, 2, 1, 3, 1, 2),
		{key(1, 2, 3, 4), key(), key(5, 6)},
	}
	for _, odd := range []int{math.MinInt, -1, 0, 1, 2, 65, math.MaxInt} {
		for _, s := range []api.Schema{
			{},
			{Keys: odd},
			{Types: []int{api.Int}, Keys: odd},
			{Types: []int{odd, api.Text, odd}, Keys: 3, Mode: odd, Grain: odd},
			{Types: []int{api.Int, api.Text}, Keys: odd, Mode: api.Plain, Grain: odd},
		} {
			for _, marks := range lists {
				for _, r := range ends([]api.Row{nil, {}, key(1), key(2, 2, 2, 2), {{N: 1, S: "x"}, {S: "y"}}}) {
					from, to := Meets(s, marks, r)
					again, and := Meets(s, marks, r)
					if from != again || to != and || from < 0 || to > len(marks) || from >= to && (from != 0 || to != 0) {
						t.Errorf("%v, %v, %v: %d, %d, then %d, %d", s, marks, r, from, to, again, and)
					}
					for _, row := range marks {
						if In(s, r, row) != In(s, r, row) {
							t.Errorf("%v, %v, %v: in, and not", s, r, row)
						}
					}
					if Empty(s, r) != Empty(s, r) || Empty(s, r) && !(r.HasLo && r.HasHi) {
						t.Errorf("%v, %v: empty", s, r)
					}
				}
			}
		}
	}
}
