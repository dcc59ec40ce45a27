package order

import (
	"math"
	"reflect"
	"slices"
	"strconv"
	"strings"
	"testing"

	"thresher/api"
)

func n(x int64) api.Value     { return api.Value{N: x} }
func text(s string) api.Value { return api.Value{S: s} }

// plain is a schema that may be, of these types.
func plain(keys int, types ...int) api.Schema {
	return api.Schema{Types: types, Keys: keys, Mode: api.Plain, Grain: 4}
}

// tagged is a schema of one Int as its key, and of a tag behind it, which tells rows of one key apart.
var tagged = plain(1, api.Int, api.Int)

// tag is rows of these keys, each with its place as its tag.
func tag(keys ...int64) []api.Row {
	out := make([]api.Row, len(keys))
	for i, k := range keys {
		out[i] = api.Row{n(k), n(int64(i))}
	}
	return out
}

// eachList calls use with each list of up to most numbers from 0 on up to, but not to, kinds.
func eachList(most, kinds int, use func(keys []int64)) {
	var grow func(keys []int64)
	grow = func(keys []int64) {
		use(slices.Clone(keys))
		if len(keys) == most {
			return
		}
		for k := range kinds {
			grow(append(slices.Clone(keys), int64(k)))
		}
	}
	grow(nil)
}

// placed is the tagged rows of l in order, by the document's words: each stands behind those below it, and behind those of its key that are first in l.
func placed(l []api.Row) []api.Row {
	out := make([]api.Row, len(l))
	for i, r := range l {
		at := 0
		for j, other := range l {
			if other[0].N < r[0].N || other[0].N == r[0].N && j < i {
				at++
			}
		}
		out[at] = r
	}
	return out
}

// scattered is so many keys of so many kinds, in no order, and always the same.
func scattered(count, kinds int) []int64 {
	out := make([]int64, count)
	x := uint32(1)
	for i := range out {
		x = x*1664525 + 1013904223
		out[i] = int64(x>>16) % int64(kinds)
	}
	return out
}

// same tells whether a and b are the same rows; a list that is empty may be nil.
func same(a, b []api.Row) bool {
	return len(a) == 0 && len(b) == 0 || reflect.DeepEqual(a, b)
}

// P9.1
func TestSort(t *testing.T) {
	two := plain(2, api.Text, api.Int, api.Text)
	row := func(a string, b int64, c string) api.Row { return api.Row{text(a), n(b), text(c)} }
	for _, x := range []struct {
		name    string
		s       api.Schema
		l, want []api.Row
	}{
		{"none", tagged, nil, nil},
		{"an empty list", tagged, []api.Row{}, nil},
		{"one", tagged, tag(5), tag(5)},
		{"in order", tagged, tag(1, 2, 3), tag(1, 2, 3)},
		{"turned round", tagged, tag(3, 2, 1), []api.Row{{n(1), n(2)}, {n(2), n(1)}, {n(3), n(0)}}},
		{"of one key", tagged, tag(7, 7, 7), tag(7, 7, 7)},
		{"what is not of the key has no say", tagged, []api.Row{{n(1), n(9)}, {n(1), n(3)}, {n(0), n(5)}, {n(1), n(6)}}, []api.Row{{n(0), n(5)}, {n(1), n(9)}, {n(1), n(3)}, {n(1), n(6)}}},
		{"Int", plain(1, api.Int), []api.Row{{n(1)}, {n(math.MinInt64)}, {n(-1)}, {n(math.MaxInt64)}, {n(0)}}, []api.Row{{n(math.MinInt64)}, {n(-1)}, {n(0)}, {n(1)}, {n(math.MaxInt64)}}},
		{"Uint", plain(1, api.Uint), []api.Row{{n(1)}, {n(math.MinInt64)}, {n(-1)}, {n(math.MaxInt64)}, {n(0)}}, []api.Row{{n(0)}, {n(1)}, {n(math.MaxInt64)}, {n(math.MinInt64)}, {n(-1)}}},
		{"Text", plain(1, api.Text), []api.Row{{text("b")}, {text("ab")}, {text("\xff")}, {text("a")}, {text("")}, {text("B")}}, []api.Row{{text("")}, {text("B")}, {text("a")}, {text("ab")}, {text("b")}, {text("\xff")}}},
		{"two keys", two, []api.Row{row("b", -1, "1"), row("a", 2, "2"), row("b", -2, "3"), row("a", 2, "1"), row("", 9, "4")}, []api.Row{row("", 9, "4"), row("a", 2, "2"), row("a", 2, "1"), row("b", -2, "3"), row("b", -1, "1")}},
	} {
		if got := Sort(x.s, x.l); !same(got, x.want) {
			t.Errorf("%s: %v, want %v", x.name, got, x.want)
		}
	}
}

// P9.1
func TestSortOfEachList(t *testing.T) {
	eachList(6, 4, func(keys []int64) {
		l := tag(keys...)
		if got, want := Sort(tagged, l), placed(l); !same(got, want) {
			t.Fatalf("%v: %v, want %v", keys, got, want)
		}
	})
}

// P9.1: lists that are too long for a sort to go about them as about short ones.
func TestSortOfLongLists(t *testing.T) {
	for _, count := range []int{11, 12, 13, 20, 21, 40, 41, 64, 100, 1000, api.MaxRows} {
		for _, kinds := range []int{1, 2, 3, 10, 5000} {
			l := tag(scattered(count, kinds)...)
			if !same(Sort(tagged, l), placed(l)) {
				t.Errorf("%d rows of %d keys are in another order", count, kinds)
			}
		}
	}
}

// P9.1: a schema's mode and grain have no say.
func TestSortOfEachMode(t *testing.T) {
	l := tag(3, 1, 2, 1, 3)
	for _, mode := range []int{api.Plain, api.Replacing, api.Summing} {
		for _, grain := range []int{1, api.MaxGrain} {
			s := api.Schema{Types: tagged.Types, Keys: 1, Mode: mode, Grain: grain}
			if !same(Sort(s, l), placed(l)) || Sorted(s, l) || Below(s, placed(l), api.Row{n(2)}) != 2 || Upto(s, placed(l), api.Row{n(2)}) != 3 {
				t.Errorf("mode %d, grain %d", mode, grain)
			}
		}
	}
}

// P9.1
func TestSorted(t *testing.T) {
	two := plain(2, api.Int, api.Text, api.Int)
	row := func(a int64, b string, c int64) api.Row { return api.Row{n(a), text(b), n(c)} }
	for _, x := range []struct {
		s    api.Schema
		l    []api.Row
		want bool
	}{
		{tagged, nil, true},
		{tagged, []api.Row{}, true},
		{tagged, tag(5), true},
		{tagged, tag(1, 2), true},
		{tagged, tag(2, 2), true},
		{tagged, tag(2, 1), false},
		{tagged, tag(-1, 1), true},
		{tagged, tag(1, 2, 2, 3, 3, 3), true},
		{tagged, tag(1, 3, 2), false},
		{tagged, tag(2, 1, 3), false},
		// It is the next one that is asked for, not the first or the last.
		{tagged, tag(1, 3, 2, 3), false},
		{tagged, []api.Row{{n(1), n(9)}, {n(1), n(3)}}, true},
		{plain(2, api.Int, api.Int), []api.Row{{n(1), n(9)}, {n(1), n(3)}}, false},
		{plain(1, api.Uint), []api.Row{{n(-1)}, {n(1)}}, false},
		{plain(1, api.Uint), []api.Row{{n(1)}, {n(math.MaxInt64)}, {n(math.MinInt64)}, {n(-1)}}, true},
		{plain(1, api.Text), []api.Row{{text("")}, {text("a")}, {text("ab")}, {text("b")}}, true},
		{plain(1, api.Text), []api.Row{{text("ab")}, {text("a")}}, false},
		{two, []api.Row{row(1, "a", 5), row(1, "a", 4), row(1, "b", 3), row(2, "", 2)}, true},
		{two, []api.Row{row(1, "b", 1), row(1, "a", 2)}, false},
		{two, []api.Row{row(2, "a", 1), row(1, "b", 2)}, false},
	} {
		if got := Sorted(x.s, x.l); got != x.want {
			t.Errorf("%v: %v", x.l, got)
		}
	}
}

// P9.1
func TestSortedOfEachList(t *testing.T) {
	eachList(6, 3, func(keys []int64) {
		if got := Sorted(tagged, tag(keys...)); got != slices.IsSorted(keys) {
			t.Fatalf("%v: %v", keys, got)
		}
	})
}

// P9.1
func TestSortedAtEachPlace(t *testing.T) {
	for _, count := range []int{2, 3, 64, api.MaxRows} {
		keys := make([]int64, count)
		for i := range keys {
			keys[i] = int64(2 * i)
		}
		if !Sorted(tagged, tag(keys...)) {
			t.Errorf("%d rows are in no order", count)
		}
		for i := 1; i < count; i += 1 + count/100 {
			l := tag(keys...)
			l[i][0].N = keys[i-1]
			if !Sorted(tagged, l) {
				t.Errorf("of %d rows the one at %d has the key of the one ahead", count, i)
			}
			l[i][0].N = keys[i-1] - 1
			if Sorted(tagged, l) {
				t.Errorf("of %d rows the one at %d is below the one ahead", count, i)
			}
		}
	}
}

// P9.2
func TestBelowAndUpto(t *testing.T) {
	ints := plain(1, api.Int)
	some := []api.Row{{n(1)}, {n(2)}, {n(2)}, {n(3)}}
	uints := []api.Row{{n(0)}, {n(1)}, {n(math.MaxInt64)}, {n(math.MinInt64)}, {n(-1)}}
	words := []api.Row{{text("")}, {text("a")}, {text("a")}, {text("ab")}, {text("b")}, {text("\xff")}}
	for _, x := range []struct {
		s           api.Schema
		l           []api.Row
		key         api.Row
		below, upto int
	}{
		{ints, some, api.Row{n(2)}, 1, 3},
		{ints, some, api.Row{n(math.MinInt64)}, 0, 0},
		{ints, some, api.Row{n(0)}, 0, 0},
		{ints, some, api.Row{n(1)}, 0, 1},
		{ints, some, api.Row{n(3)}, 3, 4},
		{ints, some, api.Row{n(4)}, 4, 4},
		{ints, some, api.Row{n(math.MaxInt64)}, 4, 4},
		{ints, nil, api.Row{n(2)}, 0, 0},
		{ints, []api.Row{}, api.Row{n(2)}, 0, 0},
		{ints, nil, nil, 0, 0},
		{ints, some[:1], api.Row{n(0)}, 0, 0},
		{ints, some[:1], api.Row{n(1)}, 0, 1},
		{ints, some[:1], api.Row{n(2)}, 1, 1},
		{ints, some[1:3], api.Row{n(2)}, 0, 2},
		// A key that no row has, between two that some have.
		{ints, []api.Row{{n(1)}, {n(5)}}, api.Row{n(3)}, 1, 1},
		// Of a key of no values none is below it, and none above.
		{ints, some, nil, 0, 4},
		{ints, some, api.Row{}, 0, 4},
		{plain(1, api.Uint), uints, api.Row{n(-1)}, 4, 5},
		{plain(1, api.Uint), uints, api.Row{n(-2)}, 4, 4},
		{plain(1, api.Uint), uints, api.Row{n(math.MinInt64)}, 3, 4},
		{plain(1, api.Uint), uints, api.Row{n(2)}, 2, 2},
		{plain(1, api.Text), words, api.Row{text("")}, 0, 1},
		{plain(1, api.Text), words, api.Row{text("a")}, 1, 3},
		{plain(1, api.Text), words, api.Row{text("aa")}, 3, 3},
		{plain(1, api.Text), words, api.Row{text("ab")}, 3, 4},
		{plain(1, api.Text), words, api.Row{text("\xff\xff")}, 6, 6},
	} {
		if below, upto := Below(x.s, x.l, x.key), Upto(x.s, x.l, x.key); below != x.below || upto != x.upto {
			t.Errorf("%v, key %v: %d, %d, want %d, %d", x.l, x.key, below, upto, x.below, x.upto)
		}
	}
}

// P9.2: keys may have fewer values than the schema's key, or be whole rows.
func TestBelowAndUptoOfShortAndLongKeys(t *testing.T) {
	s := plain(3, api.Int, api.Text, api.Uint, api.Int)
	row := func(a int64, b string, c, d int64) api.Row { return api.Row{n(a), text(b), n(c), n(d)} }
	l := []api.Row{
		row(-1, "b", 1, 9),
		row(1, "a", 1, 8),
		row(1, "a", -1, 7),
		row(1, "b", 1, 6),
		row(1, "b", 1, 5),
		row(1, "b", 2, 4),
		row(2, "", 0, 3),
	}
	for _, x := range []struct {
		key         api.Row
		below, upto int
	}{
		{nil, 0, 7},
		{api.Row{n(-2)}, 0, 0},
		{api.Row{n(-1)}, 0, 1},
		{api.Row{n(0)}, 1, 1},
		{api.Row{n(1)}, 1, 6},
		{api.Row{n(2)}, 6, 7},
		{api.Row{n(3)}, 7, 7},
		{api.Row{n(1), text("")}, 1, 1},
		{api.Row{n(1), text("a")}, 1, 3},
		{api.Row{n(1), text("b")}, 3, 6},
		{api.Row{n(1), text("c")}, 6, 6},
		{api.Row{n(-1), text("a")}, 0, 0},
		{api.Row{n(1), text("a"), n(2)}, 2, 2},
		{api.Row{n(1), text("b"), n(0)}, 3, 3},
		{api.Row{n(1), text("b"), n(1)}, 3, 5},
		{api.Row{n(1), text("b"), n(-1)}, 6, 6},
		// What is behind the key has no say, fit or not.
		{row(1, "b", 1, 0), 3, 5},
		{row(1, "b", 1, 99), 3, 5},
		{append(row(1, "b", 1, 6), n(1), text("a")), 3, 5},
		{api.Row{n(1), text("b"), n(1), text("x")}, 3, 5},
	} {
		if below, upto := Below(s, l, x.key), Upto(s, l, x.key); below != x.below || upto != x.upto {
			t.Errorf("key %v: %d, %d, want %d, %d", x.key, below, upto, x.below, x.upto)
		}
	}
}

// counted is how many of keys are below key, and how many are not above it.
func counted(keys []int64, key int64) (below, upto int) {
	for _, k := range keys {
		if k < key {
			below++
		}
		if k <= key {
			upto++
		}
	}
	return below, upto
}

// P9.2
func TestBelowAndUptoOfEachList(t *testing.T) {
	eachList(6, 4, func(keys []int64) {
		slices.Sort(keys)
		l := tag(keys...)
		for key := int64(-1); key <= 4; key++ {
			below, upto := counted(keys, key)
			if a, b := Below(tagged, l, api.Row{n(key)}), Upto(tagged, l, api.Row{n(key)}); a != below || b != upto {
				t.Fatalf("%v, key %d: %d, %d, want %d, %d", keys, key, a, b, below, upto)
			}
		}
	})
}

// P9.2
func TestBelowAndUptoOfLongLists(t *testing.T) {
	for _, count := range []int{63, 64, 65, 1000, api.MaxRows} {
		for _, kinds := range []int{1, 2, 30, 5000} {
			keys := scattered(count, kinds)
			slices.Sort(keys)
			l := tag(keys...)
			for key := int64(-1); key <= int64(kinds); key += 1 + int64(kinds)/50 {
				below, upto := counted(keys, key)
				if a, b := Below(tagged, l, api.Row{n(key)}), Upto(tagged, l, api.Row{n(key)}); a != below || b != upto {
					t.Fatalf("%d rows of %d keys, key %d: %d, %d, want %d, %d", count, kinds, key, a, b, below, upto)
				}
			}
		}
	}
}

// P9.3
func TestWhatIsSortedStays(t *testing.T) {
	check := func(s api.Schema, l []api.Row) {
		t.Helper()
		once := Sort(s, l)
		if len(once) != len(l) || !Sorted(s, once) || !same(Sort(s, once), once) {
			t.Fatalf("%v is sorted to %v", l, once)
		}
		// The same rows, each as many times: told by all their values.
		if told(once) != told(l) {
			t.Fatalf("%v has other rows than %v", once, l)
		}
		if Sorted(s, l) && !same(once, l) {
			t.Fatalf("%v, which is in order, is changed to %v", l, once)
		}
	}
	eachList(5, 4, func(keys []int64) { check(tagged, tag(keys...)) })
	for _, count := range []int{20, 21, 500, api.MaxRows} {
		keys := scattered(3*count, 7)
		wide := make([]api.Row, count)
		for i := range wide {
			wide[i] = api.Row{text(strings.Repeat("a", int(keys[i]))), n(keys[count+i] - 3), n(keys[2*count+i]), n(int64(i))}
		}
		for most := 1; most <= 4; most++ {
			check(plain(most, api.Text, api.Uint, api.Int, api.Int), wide)
		}
	}
}

// told is the rows of l as one text, in an order of their own.
func told(l []api.Row) string {
	lines := make([]string, len(l))
	for i, r := range l {
		for _, v := range r {
			lines[i] += strconv.FormatInt(v.N, 10) + strconv.Quote(v.S) + " "
		}
	}
	slices.Sort(lines)
	return strings.Join(lines, "\n")
}

// P9.3: Below and Upto cut the rows in those below a key, those of it, and those above.
func TestWhereAKeyIsLaid(t *testing.T) {
	eachList(5, 4, func(keys []int64) {
		l := Sort(tagged, tag(keys...))
		for i, r := range l {
			below, upto := Below(tagged, l, r), Upto(tagged, l, r)
			if below > i || upto <= i {
				t.Fatalf("%v: the row at %d is of those from %d on up to %d", keys, i, below, upto)
			}
			// As the last of its key it stays in order behind all of these, as the first ahead of them.
			if !Sorted(tagged, slices.Insert(slices.Clone(l), upto, r)) || !Sorted(tagged, slices.Insert(slices.Clone(l), below, r)) {
				t.Fatalf("%v: the row at %d is laid out of order", keys, i)
			}
		}
	})
}

// R7
func TestNothingHandedInIsChanged(t *testing.T) {
	for _, keys := range [][]int64{{3, 1, 2, 1}, {1, 1, 2, 3}, {5}, scattered(100, 9)} {
		// Behind what is handed in there is more of the caller's.
		whole := append(tag(keys...), tag(-5, -6)...)
		l := whole[:len(keys)]
		key := api.Row{n(2), n(7)}
		s := plain(1, api.Int, api.Int)
		out := Sort(s, l)
		Sorted(s, l)
		Below(s, out, key)
		Upto(s, out, key)
		if want := append(tag(keys...), tag(-5, -6)...); !same(whole, want) {
			t.Errorf("%v becomes %v", want, whole)
		}
		if !reflect.DeepEqual(key, api.Row{n(2), n(7)}) || !reflect.DeepEqual(s, tagged) {
			t.Errorf("%v, %v: changed", key, s)
		}
		// The list that is told is the caller's own: also of rows that are in order as they stand.
		clear(out)
		if !same(l, tag(keys...)) {
			t.Errorf("%v is changed by what becomes of the answer", keys)
		}
		out = append(Sort(s, l), tag(-9)...)
		if !same(whole[len(keys):], tag(-5, -6)) || len(out) != len(keys)+1 {
			t.Errorf("%v: what is behind it is changed by what becomes of the answer", keys)
		}
	}
}

// R1, R6: what is not asked for does no harm, and is told alike each time.
func TestWhatIsNotAskedFor(t *testing.T) {
	lists := [][]api.Row{
		{nil, {}, nil},
		{{n(2)}, nil, {n(1)}, {}, {n(0), n(1), n(2), n(3)}},
		{{text("b")}, {n(2)}, {text("a")}, {n(1)}, {{N: 1, S: "x"}}},
		tag(3, 1, 2),
		tag(scattered(300, 50)...),
	}
	// Rows of which some have no values are the same as any, so that there is no order of all.
	mixed := tag(scattered(300, 50)...)
	for i := 0; i < len(mixed); i += 3 {
		mixed[i] = mixed[i][:0]
	}
	lists = append(lists, mixed)
	schemas := []api.Schema{
		{},
		{Types: []int{api.Int}},
		{Types: []int{api.Int}, Keys: -1},
		{Types: []int{api.Int}, Keys: 99},
		{Types: []int{api.Int}, Keys: math.MaxInt},
		{Types: []int{api.Int}, Keys: math.MinInt},
		{Types: []int{0, 4, -1}, Keys: 3},
		plain(1, api.Int),
		plain(2, api.Text, api.Int),
		plain(3, api.Uint, api.Text, api.Int),
	}
	for _, s := range schemas {
		for _, l := range lists {
			a := Sort(s, l)
			if len(a) != len(l) || told(a) != told(l) || !same(a, Sort(s, l)) || Sorted(s, l) != Sorted(s, l) {
				t.Errorf("%v, %v: sorted to %v", s, l, a)
			}
			for _, key := range []api.Row{nil, {}, {n(1)}, {text("a")}, {n(1), n(1), n(1), n(1), n(1)}} {
				below, upto := Below(s, l, key), Upto(s, l, key)
				if below < 0 || below > len(l) || upto < 0 || upto > len(l) || below != Below(s, l, key) || upto != Upto(s, l, key) {
					t.Errorf("%v, %v, key %v: %d, %d", s, l, key, below, upto)
				}
			}
		}
	}
}

// R1: of a schema without a key all rows are the same, and the same as any key.
func TestWithoutAKey(t *testing.T) {
	l := tag(3, 1, 2)
	for _, s := range []api.Schema{{}, {Types: []int{api.Int, api.Int}}, {Types: []int{api.Int, api.Int}, Keys: -7}} {
		if !same(Sort(s, l), l) || !Sorted(s, l) || Below(s, l, api.Row{n(2)}) != 0 || Upto(s, l, api.Row{n(2)}) != 3 {
			t.Errorf("%v has an order", s)
		}
	}
}
