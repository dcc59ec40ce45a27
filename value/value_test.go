package value

import (
	"bytes"
	"fmt"
	"math"
	"math/big"
	"strconv"
	"strings"
	"testing"

	"thresher/api"
)

func num(n int64) api.Value   { return api.Value{N: n} }
func text(s string) api.Value { return api.Value{S: s} }

// strangers are types that are none.
var strangers = []int{0, 4, -1, 9, 256, 1 << 32, 1<<32 + 1, math.MaxInt, math.MinInt}

var longText = strings.Repeat("x", api.MaxText)

// edges are numbers about which something changes: a sign, a digit, a bit.
func edges() []int64 {
	out := []int64{math.MinInt64, math.MinInt64 + 1, math.MaxInt64, math.MaxInt64 - 1}
	for n := int64(1); n > 0; n *= 2 {
		out = append(out, n-1, n, -n, -n-1)
	}
	for n := int64(10); n < 1e18; n *= 10 {
		out = append(out, n-1, n, -n, 1-n)
	}
	return out
}

// texts are texts of which some begin with others, and some have each byte.
func texts() []string {
	out := []string{"", "a", "ab", "aa", "b", "B", "a\x00", "\x00", "\x00\x00", "\x7f", "\x80", "\xff", "\xff\xff", "é", "\"", "\\", "\\22", " ", "~", longText, longText[1:], longText[1:] + "y"}
	for c := range 256 {
		out = append(out, string([]byte{byte(c)}), string([]byte{'m', byte(c), 'n'}))
	}
	return out
}

// fitting is values that fit, of each type.
func fitting() map[int][]api.Value {
	out := map[int][]api.Value{}
	for _, n := range edges() {
		out[api.Int] = append(out[api.Int], num(n))
		out[api.Uint] = append(out[api.Uint], num(n))
	}
	for _, s := range texts() {
		out[api.Text] = append(out[api.Text], text(s))
	}
	return out
}

// unfit is a value of each type that does not fit.
var unfit = map[int][]api.Value{
	api.Int:  {{N: 1, S: "x"}, {S: "x"}, {S: "\x00"}},
	api.Uint: {{N: 1, S: "x"}, {S: "x"}, {S: "\x00"}},
	api.Text: {{N: 1, S: "x"}, {N: 1}, {N: -1}, {N: math.MinInt64}, {S: longText + "x"}},
}

// P3.1
func TestFits(t *testing.T) {
	for kind, list := range fitting() {
		for _, v := range list {
			if !Fits(kind, v) {
				t.Errorf("%v is not of type %d", v, kind)
			}
			for _, other := range strangers {
				if Fits(other, v) {
					t.Errorf("%v is of type %d", v, other)
				}
			}
		}
	}
	for kind, list := range unfit {
		for _, v := range list {
			if Fits(kind, v) {
				t.Errorf("%v is of type %d", v, kind)
			}
		}
	}
	if !Fits(api.Text, text(longText)) || Fits(api.Text, text(longText+"x")) || Fits(api.Text, text(strings.Repeat("x", 1<<16))) {
		t.Error("a text has at most MaxText bytes")
	}
	// A text's bound is of bytes, not of letters.
	if !Fits(api.Text, text(strings.Repeat("é", 30))) || Fits(api.Text, text(strings.Repeat("é", 31))) {
		t.Error("MaxText is told in bytes")
	}
}

// P3.1
func TestTypes(t *testing.T) {
	if api.Int != 1 || api.Uint != 2 || api.Text != 3 {
		t.Error("types are 1, 2 and 3")
	}
}

// P3.2
func TestCompare(t *testing.T) {
	for _, x := range []struct {
		kind int
		a, b api.Value
		want int
	}{
		{api.Int, num(-1), num(1), -1},
		{api.Int, num(1), num(-1), 1},
		{api.Int, num(7), num(7), 0},
		{api.Int, num(math.MinInt64), num(math.MaxInt64), -1},
		{api.Int, num(math.MaxInt64), num(math.MinInt64), 1},
		{api.Int, num(math.MinInt64), num(1), -1},
		{api.Uint, num(-1), num(1), 1},
		{api.Uint, num(1), num(-1), -1},
		{api.Uint, num(-1), num(-1), 0},
		{api.Uint, num(math.MaxInt64), num(math.MinInt64), -1},
		{api.Uint, num(-2), num(-1), -1},
		{api.Uint, num(0), num(math.MinInt64), -1},
		{api.Text, text("a"), text("ab"), -1},
		{api.Text, text("ab"), text("a"), 1},
		{api.Text, text("ab"), text("b"), -1},
		{api.Text, text(""), text("\x00"), -1},
		{api.Text, text(""), text(""), 0},
		{api.Text, text("B"), text("a"), -1},
		{api.Text, text("\x7f"), text("\x80"), -1},
		{api.Text, text("\xff"), text("a"), 1},
		{api.Text, text("10"), text("9"), -1},
	} {
		if got := Compare(x.kind, x.a, x.b); got != x.want {
			t.Errorf("Compare(%d, %v, %v) = %d, want %d", x.kind, x.a, x.b, got, x.want)
		}
	}
}

// P3.2
func TestCompareOfMany(t *testing.T) {
	for kind, list := range fitting() {
		for _, a := range list {
			for _, b := range list {
				want := bytes.Compare([]byte(a.S), []byte(b.S))
				if kind == api.Int {
					want = big.NewInt(a.N).Cmp(big.NewInt(b.N))
				}
				if kind == api.Uint {
					want = new(big.Int).SetUint64(uint64(a.N)).Cmp(new(big.Int).SetUint64(uint64(b.N)))
				}
				if got := Compare(kind, a, b); got != want {
					t.Fatalf("Compare(%d, %v, %v) = %d, want %d", kind, a, b, got, want)
				}
			}
		}
	}
}

// P3.2
func TestCompareOfWhatDoesNotFit(t *testing.T) {
	good := map[int]api.Value{api.Int: num(-5), api.Uint: num(5), api.Text: text("m")}
	for kind, list := range unfit {
		for _, v := range list {
			if Compare(kind, v, good[kind]) != 0 || Compare(kind, good[kind], v) != 0 || Compare(kind, v, v) != 0 {
				t.Errorf("%v, not of type %d, has an order", v, kind)
			}
		}
	}
	for _, kind := range strangers {
		if Compare(kind, num(1), num(2)) != 0 || Compare(kind, text("b"), text("a")) != 0 {
			t.Errorf("type %d has an order", kind)
		}
	}
}

// P3.2
func TestAdd(t *testing.T) {
	for _, x := range []struct {
		kind       int
		a, b, want api.Value
	}{
		{api.Int, num(2), num(3), num(5)},
		{api.Int, num(2), num(-3), num(-1)},
		{api.Int, num(math.MaxInt64), num(1), num(math.MinInt64)},
		{api.Int, num(math.MinInt64), num(-1), num(math.MaxInt64)},
		{api.Int, num(math.MinInt64), num(math.MinInt64), num(0)},
		{api.Uint, num(-1), num(3), num(2)},
		{api.Uint, num(-1), num(-1), num(-2)},
		{api.Uint, num(math.MaxInt64), num(1), num(math.MinInt64)},
		{api.Text, text("a"), text("b"), text("b")},
		{api.Text, text("a"), text(""), text("")},
		{api.Text, text(""), text("b"), text("b")},
		{api.Text, text(longText), text(longText), text(longText)},
	} {
		if got := Add(x.kind, x.a, x.b); got != x.want {
			t.Errorf("Add(%d, %v, %v) = %v, want %v", x.kind, x.a, x.b, got, x.want)
		}
	}
}

// P3.2
func TestAddOfWhatDoesNotFit(t *testing.T) {
	good := map[int]api.Value{api.Int: num(-5), api.Uint: num(5), api.Text: text("m")}
	for kind, list := range unfit {
		for _, v := range list {
			for _, got := range []api.Value{Add(kind, v, good[kind]), Add(kind, good[kind], v), Add(kind, v, v)} {
				if got != (api.Value{}) {
					t.Errorf("%v, not of type %d, has a sum: %v", v, kind, got)
				}
			}
		}
	}
	for _, kind := range strangers {
		if Add(kind, num(1), num(2)) != (api.Value{}) || Add(kind, text("b"), text("a")) != (api.Value{}) {
			t.Errorf("type %d has a sum", kind)
		}
	}
}

// P3.3
func TestText(t *testing.T) {
	for _, x := range []struct {
		kind int
		v    api.Value
		want string
	}{
		{api.Int, num(0), "0"},
		{api.Int, num(-5), "-5"},
		{api.Int, num(100), "100"},
		{api.Int, num(math.MinInt64), "-9223372036854775808"},
		{api.Int, num(math.MaxInt64), "9223372036854775807"},
		{api.Uint, num(0), "0"},
		{api.Uint, num(-1), "18446744073709551615"},
		{api.Uint, num(math.MinInt64), "9223372036854775808"},
		{api.Text, text(""), `""`},
		{api.Text, text("a b"), `"a b"`},
		{api.Text, text("-5"), `"-5"`},
		{api.Text, text("\"\\\n\xff"), `"\22\5c\0a\ff"`},
		{api.Text, text("\x00\x1f ~\x7f\x80"), `"\00\1f ~\7f\80"`},
		{api.Text, text("é"), `"\c3\a9"`},
		{api.Text, text("\\41"), `"\5c41"`},
		{api.Text, text(longText), `"` + longText + `"`},
		{api.Text, text(strings.Repeat("\xab", api.MaxText)), `"` + strings.Repeat(`\ab`, api.MaxText) + `"`},
	} {
		if got := Text(x.kind, x.v); got != x.want {
			t.Errorf("Text(%d, %v) = %s, want %s", x.kind, x.v, got, x.want)
		}
	}
}

// P3.3
func TestTextOfEachByte(t *testing.T) {
	for c := range 256 {
		want := string(rune(c))
		if c < 32 || c > 126 || c == '"' || c == '\\' {
			want = fmt.Sprintf("\\%02x", c)
		}
		if got := Text(api.Text, text(string([]byte{byte(c)}))); got != `"`+want+`"` {
			t.Errorf("byte %d is written as %s", c, got)
		}
	}
}

// P3.3
func TestTextOfWhatDoesNotFit(t *testing.T) {
	for kind, list := range unfit {
		for _, v := range list {
			if got := Text(kind, v); got != "" {
				t.Errorf("%v, not of type %d, is written as %s", v, kind, got)
			}
		}
	}
	for _, kind := range strangers {
		if Text(kind, num(5)) != "" || Text(kind, text("a")) != "" || Text(kind, num(0)) != "" {
			t.Errorf("a value of type %d is written", kind)
		}
	}
}

// P3.3
func TestReadOfWhatIsNone(t *testing.T) {
	both := []string{"", "-", "+", "-0", "+1", "+0", "00", "01", "-01", "--1", " 1", "1 ", "1\n", "1_0", "0x1", "1e3", "1.0", "a", "a1", "1a", `"1"`, `""`, "١", "\x00", "18446744073709551616", "-9223372036854775809", "99999999999999999999", strings.Repeat("1", 1000), strings.Repeat("0", 1000), "-18446744073709551615"}
	for kind, list := range map[int][]string{
		api.Int:  append([]string{"9223372036854775808", "18446744073709551615", "-9223372036854775810"}, both...),
		api.Uint: append([]string{"-1", "-5", "18446744073709551617"}, both...),
		api.Text: {"", "a", `"`, `"a`, `a"`, `""a"`, `"a""`, `"""`, `"\"`, `"\\"`, `"\f"`, `"\ff`, `"\FF"`, `"\fF"`, `"\5C"`, `"\41"`, `"\20"`, `"\7e"`, `"\g0"`, `"\0g"`, `"\+1"`, `"\-1"`, `"\_1"`, `"\1_"`, `"\0"`, `"\ 0"`, `"\x00"`, `"\n"`, `"\""`, "\"\n\"", "\"\x7f\"", "\"\xff\"", "\"\xc3\xa9\"", "'a'", "`a`", "aba", ` "a"`, `"a" `, "5", `"` + longText + `x"`, `"` + strings.Repeat(`\ab`, api.MaxText+1) + `"`, `"` + strings.Repeat(`\ab`, api.MaxText) + `x"`, `"` + strings.Repeat("x", 1<<16) + `"`},
	} {
		for _, s := range list {
			if v, ok := Read(kind, s); v != (api.Value{}) || ok {
				t.Errorf("Read(%d, %q) = %v, %v", kind, s, v, ok)
			}
		}
	}
}

// P3.3
func TestReadOfOtherTypes(t *testing.T) {
	for _, kind := range strangers {
		for _, s := range []string{"", "0", "5", "-5", `""`, `"a"`} {
			if v, ok := Read(kind, s); v != (api.Value{}) || ok {
				t.Errorf("Read(%d, %q) = %v, %v", kind, s, v, ok)
			}
		}
	}
}

// P3.3
func TestReadOfOneByteChanged(t *testing.T) {
	for kind, list := range map[int][]string{api.Int: {"-9223372036854775808", "120"}, api.Uint: {"18446744073709551615", "9"}, api.Text: {`"a\ff b"`, `""`, `"\22"`}} {
		for _, s := range list {
			for i := range s {
				for c := range 256 {
					changed := s[:i] + string([]byte{byte(c)}) + s[i+1:]
					if v, ok := Read(kind, changed); ok && Text(kind, v) != changed || !ok && v != (api.Value{}) {
						t.Errorf("Read(%d, %q) = %v, %v", kind, changed, v, ok)
					}
				}
			}
		}
	}
}

// P3.4
func TestCompareIsAnOrder(t *testing.T) {
	for kind, list := range fitting() {
		for i, a := range list {
			for j, b := range list {
				ab := Compare(kind, a, b)
				if ab != -Compare(kind, b, a) || (ab == 0) != (a == b) {
					t.Fatalf("type %d: %v and %v are in no order", kind, a, b)
				}
				// Some of the thirds are enough: the places wander through the whole list.
				c := list[(i*31+j*17)%len(list)]
				if ab <= 0 && Compare(kind, b, c) <= 0 && Compare(kind, a, c) > 0 {
					t.Fatalf("type %d: %v, %v and %v go round", kind, a, b, c)
				}
			}
		}
	}
}

// P3.4
func TestWhatIsWrittenIsRead(t *testing.T) {
	for kind, list := range fitting() {
		written := map[string]api.Value{}
		for _, v := range list {
			s := Text(kind, v)
			if got, ok := Read(kind, s); got != v || !ok {
				t.Errorf("Read(%d, %q) = %v, %v, want %v", kind, s, got, ok, v)
			}
			if other, there := written[s]; there && other != v {
				t.Errorf("%v and %v are both written as %s", v, other, s)
			}
			written[s] = v
		}
	}
	for _, n := range edges() {
		if Text(api.Int, num(n)) != big.NewInt(n).String() || Text(api.Uint, num(n)) != strconv.FormatUint(uint64(n), 10) {
			t.Errorf("%d is written otherwise", n)
		}
	}
	all := make([]byte, 256)
	for c := range all {
		all[c] = byte(c)
	}
	for from := 0; from+api.MaxText <= len(all); from++ {
		v := text(string(all[from : from+api.MaxText]))
		if got, ok := Read(api.Text, Text(api.Text, v)); got != v || !ok {
			t.Errorf("bytes from %d on are read as %v, %v", from, got, ok)
		}
	}
}
