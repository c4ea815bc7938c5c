package value

import (
	"fmt"
	"math"
	"math/big"
	"math/rand"
	"regexp"
	"slices"
	"strconv"
	"strings"
	"testing"

	"micropart/api"
	"micropart/date"
	"micropart/decimal"
	"micropart/varint"
)

var (
	types    = []int{api.Int, api.Bool, api.Bytes, api.Date, api.Decimal}
	notTypes = []int{0, -1, -2, -5, 6, 7, 9, 256 + api.Int, 1<<32 + api.Bytes, math.MinInt, math.MinInt + api.Decimal, math.MaxInt}

	scalesOutOfRange = []int{-1, -2, 19, 20, 1 << 32, 1<<32 + 2, math.MinInt, math.MaxInt}
)

func column(typ, scale int) api.Column {
	return api.Column{Name: "c", Type: typ, Scale: scale, Nullable: true}
}

func number(n int64) api.Value { return api.Value{N: n} }

func bytesOf(s string) api.Value { return api.Value{S: s} }

func null() api.Value { return api.Value{Null: true} }

// edgeNumbers returns numbers at both sides of the bounds of all types, and numbers with every
// count of digits.
func edgeNumbers() []int64 {
	numbers := []int64{}
	for _, bound := range []int64{
		0, 1, api.MinDate, api.MaxDate, api.MaxDecimal, -api.MaxDecimal, 64, 300, math.MinInt32, math.MaxInt32, 1 << 32,
	} {
		numbers = append(numbers, bound-2, bound-1, bound, bound+1, bound+2)
	}
	for power := int64(1); power > 0 && power <= 1000000000000000000; power *= 10 {
		numbers = append(numbers, power-1, power, -power, 1-power, 9*(power/10), -7*(power/10))
	}
	for groups := 7; groups < 63; groups += 7 { // the sizes of the binary form change here
		numbers = append(numbers, 1<<(groups-1)-1, 1<<(groups-1), -1<<(groups-1), -1<<(groups-1)-1)
	}
	numbers = append(numbers, math.MinInt64, math.MinInt64+1, math.MaxInt64, math.MaxInt64-1)
	slices.Sort(numbers)
	return slices.Compact(numbers)
}

// edgeStrings returns strings with sizes at both sides of MaxBytes, and with bytes of all kinds.
func edgeStrings() []string {
	all := make([]byte, 256)
	for i := range all {
		all[i] = byte(i)
	}
	return []string{
		"", "\x00", "\x00\x00", "\x01\x02", "\x7f", "\x80", "\xff", "\xff\x00", "a", "ab", "b", "aB", "null", "\"", "\"\"", "é",
		string(all[:63]), string(all[64:128]), string(all[192:]), strings.Repeat("\xff", 63), strings.Repeat("\xff", 64),
		strings.Repeat("\xff", 65), strings.Repeat("a", 65), string(all[:128]), string(all), strings.Repeat("xyz", 10000),
	}
}

// edgeValues returns values that are valid for some type, and values that are valid for none.
func edgeValues() []api.Value {
	values := []api.Value{}
	for _, isNull := range []bool{false, true} {
		for _, n := range edgeNumbers() {
			values = append(values, api.Value{Null: isNull, N: n}, api.Value{Null: isNull, N: n, S: "x"})
		}
		for _, s := range edgeStrings() {
			values = append(values, api.Value{Null: isNull, S: s}, api.Value{Null: isNull, N: 1, S: s})
		}
	}
	return values
}

// edgeColumns returns columns of all types and of numbers that are none.
func edgeColumns() []api.Column {
	columns := []api.Column{}
	for _, typ := range slices.Concat(types, notTypes) {
		for _, scale := range append([]int{0, 2, 17, 18}, scalesOutOfRange...) {
			columns = append(columns, api.Column{Name: "c", Type: typ, Scale: scale, Nullable: true}, api.Column{Type: typ, Scale: scale})
		}
	}
	return columns
}

// slowCheck asks one question of the promise after the other.
func slowCheck(c api.Column, v api.Value) api.Errno {
	switch {
	case !slices.Contains(types, c.Type):
		return api.ErrArg
	case v.Null && v.N != 0, v.Null && v.S != "":
		return api.ErrType
	case v.Null && !c.Nullable:
		return api.ErrNull
	case v.Null:
		return api.OK
	case c.Type != api.Bytes && v.S != "", c.Type == api.Bytes && v.N != 0:
		return api.ErrType
	case c.Type == api.Bool && v.N != 0 && v.N != 1,
		c.Type == api.Date && (v.N < api.MinDate || api.MaxDate < v.N),
		c.Type == api.Decimal && (v.N < -api.MaxDecimal || api.MaxDecimal < v.N),
		c.Type == api.Bytes && len(v.S) > 64:
		return api.ErrRange
	}
	return api.OK
}

// slowFormat returns the text of a valid value.
func slowFormat(c api.Column, v api.Value) string {
	if v.Null {
		return "null"
	}
	switch c.Type {
	case api.Int:
		return big.NewInt(v.N).String()
	case api.Bool:
		return strconv.FormatBool(v.N == 1)
	case api.Bytes:
		return fmt.Sprintf("\"%x\"", v.S)
	case api.Date:
		s, _ := date.Format(int(v.N))
		return s
	}
	s, _ := decimal.Format(v.N, c.Scale)
	return s
}

var (
	intForm   = regexp.MustCompile(`^(0|-?[1-9][0-9]*)\z`)
	bytesForm = regexp.MustCompile(`^"([0-9a-f][0-9a-f])*"\z`)
)

// slowParse matches the form and computes with integers of any size.
func slowParse(c api.Column, s string) (api.Value, api.Errno) {
	switch {
	case !slices.Contains(types, c.Type), c.Type == api.Decimal && (c.Scale < 0 || c.Scale > 18):
		return api.Value{}, api.ErrArg
	case s == "null" && !c.Nullable:
		return api.Value{}, api.ErrNull
	case s == "null":
		return null(), api.OK
	case c.Type == api.Int && !intForm.MatchString(s),
		c.Type == api.Bool && s != "true" && s != "false",
		c.Type == api.Bytes && !bytesForm.MatchString(s):
		return api.Value{}, api.ErrForm
	}
	switch c.Type {
	case api.Bool:
		return number(int64(len("false") - len(s))), api.OK
	case api.Date:
		n, e := date.Parse(s)
		return number(int64(n)), e
	case api.Decimal:
		n, e := decimal.Parse(s, c.Scale)
		return number(n), e
	case api.Bytes:
		if len(s) > 130 {
			return api.Value{}, api.ErrRange
		}
		content := ""
		fmt.Sscanf(strings.Trim(s, "\""), "%x", &content)
		return bytesOf(content), api.OK
	}
	n, _ := new(big.Int).SetString(s, 10)
	if !n.IsInt64() {
		return api.Value{}, api.ErrOverflow
	}
	return number(n.Int64()), api.OK
}

// slowGet reads one part after the other off the front of s.
func slowGet(s string, at int) (api.Value, int, api.Errno) {
	if at < 0 || at > len(s) {
		return api.Value{}, 0, api.ErrRange
	}
	rest := s[at:]
	if rest == "" {
		return api.Value{}, 0, api.ErrShort
	}
	first := rest[0]
	rest = rest[1:]
	if first == 0 {
		return null(), len(s) - len(rest), api.OK
	}
	if first != 1 {
		return api.Value{}, 0, api.ErrForm
	}
	parts := [2]uint64{}
	for i := range parts {
		v, size, e := varint.Get(rest, 0)
		if e != api.OK {
			return api.Value{}, 0, e
		}
		parts[i], rest = v, rest[size:]
	}
	content := []byte{}
	for range parts[1] {
		if rest == "" {
			return api.Value{}, 0, api.ErrShort
		}
		content, rest = append(content, rest[0]), rest[1:]
	}
	return api.Value{N: varint.Zag(parts[0]), S: string(content)}, len(s) - len(rest), api.OK
}

func checkCheck(t *testing.T, c api.Column, v api.Value, want api.Errno) {
	t.Helper()
	if e := Check(c, v); e != want {
		t.Errorf("Check(%+v, %+v) = %d, want %d", c, v, e, want)
	}
}

func checkCompare(t *testing.T, typ int, a, b api.Value, want int) {
	t.Helper()
	if got := Compare(typ, a, b); got != want {
		t.Errorf("Compare(%d, %+v, %+v) = %d, want %d", typ, a, b, got, want)
	}
}

func checkFormat(t *testing.T, c api.Column, v api.Value, want string, wantErr api.Errno) {
	t.Helper()
	if s, e := Format(c, v); s != want || e != wantErr {
		t.Errorf("Format(%+v, %+v) = %q, %d, want %q, %d", c, v, s, e, want, wantErr)
	}
}

func checkParse(t *testing.T, c api.Column, s string, want api.Value, wantErr api.Errno) {
	t.Helper()
	if v, e := Parse(c, s); v != want || e != wantErr {
		t.Errorf("Parse(%+v, %q) = %+v, %d, want %+v, %d", c, s, v, e, want, wantErr)
	}
}

// checkParseIsSlowParse compares both for a column of each type and some scales.
func checkParseIsSlowParse(t *testing.T, s string) {
	t.Helper()
	for _, typ := range types {
		for _, scale := range []int{0, 3} {
			want, wantErr := slowParse(column(typ, scale), s)
			checkParse(t, column(typ, scale), s, want, wantErr)
		}
	}
}

func checkPut(t *testing.T, v api.Value, want string) {
	t.Helper()
	if s := Put(v); s != want {
		t.Errorf("Put(%+v) = %x, want %x", v, s, want)
	}
}

func checkGet(t *testing.T, s string, at int, want api.Value, wantNext int, wantErr api.Errno) {
	t.Helper()
	if v, next, e := Get(s, at); v != want || next != wantNext || e != wantErr {
		t.Errorf("Get(%x, %d) = %+v, %d, %d, want %+v, %d, %d", s, at, v, next, e, want, wantNext, wantErr)
	}
}

// Promise 6.1: the bounds of the types.
func TestCheckOfTheBoundsOfTypes(t *testing.T) {
	for _, q := range []struct {
		typ  int
		v    api.Value
		want api.Errno
	}{
		{api.Int, number(0), api.OK},
		{api.Int, number(math.MinInt64), api.OK},
		{api.Int, number(math.MaxInt64), api.OK},
		{api.Bool, number(0), api.OK},
		{api.Bool, number(1), api.OK},
		{api.Bool, number(2), api.ErrRange},
		{api.Bool, number(-1), api.ErrRange},
		{api.Bool, number(math.MinInt64), api.ErrRange},
		{api.Date, number(-719162), api.OK},
		{api.Date, number(-719163), api.ErrRange},
		{api.Date, number(2932896), api.OK},
		{api.Date, number(2932897), api.ErrRange},
		{api.Date, number(1 << 32), api.ErrRange},
		{api.Decimal, number(999999999999999999), api.OK},
		{api.Decimal, number(1000000000000000000), api.ErrRange},
		{api.Decimal, number(-999999999999999999), api.OK},
		{api.Decimal, number(-1000000000000000000), api.ErrRange},
		{api.Decimal, number(math.MinInt64), api.ErrRange},
		{api.Bytes, bytesOf(""), api.OK},
		{api.Bytes, bytesOf(strings.Repeat("\x00", 64)), api.OK},
		{api.Bytes, bytesOf(strings.Repeat("\x00", 65)), api.ErrRange},
		{api.Bytes, bytesOf(strings.Repeat("é", 33)), api.ErrRange},
	} {
		checkCheck(t, column(q.typ, 0), q.v, q.want)
		checkCheck(t, api.Column{Type: q.typ}, q.v, q.want)
	}
}

// Promise 6.1: what has no meaning is refused, before the range is looked at.
func TestCheckOfNumbersAndStringsOfOtherTypes(t *testing.T) {
	for _, typ := range types {
		for _, isNull := range []bool{false, true} {
			both := api.Value{Null: isNull, N: 1, S: "x"}
			checkCheck(t, column(typ, 0), both, api.ErrType)
			checkCheck(t, api.Column{Type: typ}, both, api.ErrType)
		}
		checkCheck(t, column(typ, 0), api.Value{Null: true, N: -1}, api.ErrType)
		checkCheck(t, column(typ, 0), api.Value{Null: true, S: "\x00"}, api.ErrType)
	}
	for _, q := range []struct {
		typ int
		v   api.Value
	}{
		{api.Int, bytesOf("x")},
		{api.Bool, bytesOf("\x01")},
		{api.Bool, api.Value{N: 2, S: "x"}},
		{api.Date, api.Value{N: api.MaxDate + 1, S: "1970-01-01"}},
		{api.Decimal, api.Value{N: math.MaxInt64, S: "1"}},
		{api.Bytes, number(258)},
		{api.Bytes, number(-1)},
		{api.Bytes, api.Value{N: 1, S: strings.Repeat("a", 65)}},
	} {
		checkCheck(t, column(q.typ, 0), q.v, api.ErrType)
	}
}

// Promise 6.1: null values.
func TestCheckOfNullValues(t *testing.T) {
	for _, typ := range types {
		checkCheck(t, api.Column{Type: typ, Nullable: true}, null(), api.OK)
		checkCheck(t, api.Column{Type: typ}, null(), api.ErrNull)
		checkCheck(t, api.Column{Type: typ}, api.Value{Null: true, N: 1}, api.ErrType)
		checkCheck(t, api.Column{Type: typ}, api.Value{Null: true, S: "x"}, api.ErrType)
	}
}

// Promise 6.1: the type comes first, and the scale is not looked at.
func TestCheckFollowsThePromise(t *testing.T) {
	for _, c := range edgeColumns() {
		for _, v := range edgeValues() {
			if want := slowCheck(c, v); Check(c, v) != want {
				checkCheck(t, c, v, want)
			}
		}
	}
	for _, typ := range notTypes {
		checkCheck(t, api.Column{Type: typ}, api.Value{Null: true, N: 1, S: "x"}, api.ErrArg)
		checkCheck(t, column(typ, 0), api.Value{}, api.ErrArg)
	}
}

// Promise 6.2.
func TestCompareOfKnownValues(t *testing.T) {
	for _, q := range []struct {
		typ  int
		a, b api.Value
		want int
	}{
		{api.Int, number(-1), number(1), -1},
		{api.Int, number(math.MinInt64), number(math.MaxInt64), -1},
		{api.Int, number(math.MaxInt64), number(math.MinInt64), 1},
		{api.Int, number(-1), number(math.MinInt64), 1},
		{api.Int, number(7), number(7), 0},
		{api.Int, number(1 << 32), number(0), 1},
		{api.Bool, number(0), number(1), -1},
		{api.Date, number(-5), number(-4), -1},
		{api.Decimal, number(100), number(99), 1},
		{api.Bytes, bytesOf(""), bytesOf("\x00"), -1},
		{api.Bytes, bytesOf("a"), bytesOf("ab"), -1},
		{api.Bytes, bytesOf("b"), bytesOf("ab"), 1},
		{api.Bytes, bytesOf("Z"), bytesOf("a"), -1},
		{api.Bytes, bytesOf("\x7f"), bytesOf("\x80"), -1},
		{api.Bytes, bytesOf("\xff"), bytesOf("\x00\x00"), 1},
		{api.Bytes, bytesOf("10"), bytesOf("9"), -1},
		{api.Bytes, bytesOf("x"), bytesOf("x"), 0},
		{api.Bytes, api.Value{N: 2, S: "x"}, api.Value{N: 1, S: "x"}, 0},
		{api.Bytes, api.Value{N: 2, S: "x"}, api.Value{N: 1, S: "y"}, -1},
		{api.Int, api.Value{N: 2, S: "x"}, api.Value{N: 1, S: "y"}, 1},
		{api.Int, api.Value{N: 2, S: "x"}, api.Value{N: 2, S: "y"}, 0},
	} {
		checkCompare(t, q.typ, q.a, q.b, q.want)
	}
}

// Promise 6.2: null values come first and are equal, whatever else they hold.
func TestCompareOfNullValues(t *testing.T) {
	nulls := []api.Value{null(), {Null: true, N: 5}, {Null: true, N: math.MaxInt64}, {Null: true, S: "x"}, {Null: true, N: -5, S: "y"}}
	others := []api.Value{{}, number(math.MinInt64), number(-1), number(1), bytesOf("\x00"), bytesOf("x"), {N: -7, S: "a"}}
	for _, typ := range append(types, notTypes...) {
		for _, a := range nulls {
			for _, b := range nulls {
				checkCompare(t, typ, a, b, 0)
			}
			for _, b := range others {
				checkCompare(t, typ, a, b, -1)
				checkCompare(t, typ, b, a, 1)
			}
		}
	}
}

// Promise 6.2, and the consequence: in a list in ascending order, each value is compared with all
// others, also by numbers that are not types.
func TestCompareIsATotalOrder(t *testing.T) {
	numbers := []api.Value{null()}
	for _, n := range edgeNumbers() {
		numbers = append(numbers, api.Value{N: n, S: strconv.Itoa(int(n % 7))})
	}
	strs := edgeStrings()
	slices.SortFunc(strs, func(a, b string) int {
		return slices.Compare([]byte(a), []byte(b))
	})
	contents := []api.Value{null()}
	for i, s := range strs {
		contents = append(contents, api.Value{N: int64(i * 5 % 7), S: s})
	}
	for _, typ := range slices.Concat(types, notTypes) {
		ascending := numbers
		if typ == api.Bytes {
			ascending = contents
		}
		for i, a := range ascending {
			for j, b := range ascending {
				want := max(-1, min(1, i-j))
				if Compare(typ, a, b) != want {
					checkCompare(t, typ, a, b, want)
				}
			}
		}
	}
}

// Promises 6.3 and 6.4, and the example of the chapter.
func TestKnownTexts(t *testing.T) {
	for _, q := range []struct {
		c api.Column
		v api.Value
		s string
	}{
		{column(api.Int, 0), null(), "null"},
		{column(api.Bool, 0), null(), "null"},
		{column(api.Bytes, 0), null(), "null"},
		{column(api.Date, 0), null(), "null"},
		{column(api.Decimal, 18), null(), "null"},
		{column(api.Int, 0), number(0), "0"},
		{column(api.Int, 0), number(7), "7"},
		{column(api.Int, 0), number(-7), "-7"},
		{column(api.Int, 0), number(1000), "1000"},
		{column(api.Int, 0), number(-10), "-10"},
		{column(api.Int, 0), number(math.MaxInt64), "9223372036854775807"},
		{column(api.Int, 0), number(math.MinInt64), "-9223372036854775808"},
		{column(api.Bool, 0), number(0), "false"},
		{column(api.Bool, 0), number(1), "true"},
		{column(api.Bytes, 0), bytesOf("\x01\x02"), `"0102"`},
		{column(api.Bytes, 0), bytesOf(""), `""`},
		{column(api.Bytes, 0), bytesOf("\x00"), `"00"`},
		{column(api.Bytes, 0), bytesOf("\xfe\xdc\xba\x98"), `"fedcba98"`},
		{column(api.Bytes, 0), bytesOf("null"), `"6e756c6c"`},
		{column(api.Bytes, 0), bytesOf(strings.Repeat("\xa9", 64)), `"` + strings.Repeat("a9", 64) + `"`},
		{column(api.Date, 0), number(0), "1970-01-01"},
		{column(api.Date, 0), number(-1), "1969-12-31"},
		{column(api.Date, 0), number(11016), "2000-02-29"},
		{column(api.Date, 0), number(api.MinDate), "0001-01-01"},
		{column(api.Date, 0), number(api.MaxDate), "9999-12-31"},
		{column(api.Decimal, 2), number(-105), "-1.05"},
		{column(api.Decimal, 0), number(-105), "-105"},
		{column(api.Decimal, 18), number(1), "0.000000000000000001"},
		{column(api.Decimal, 1), number(api.MaxDecimal), "99999999999999999.9"},
		{column(api.Decimal, 0), number(-api.MaxDecimal), "-999999999999999999"},
	} {
		checkFormat(t, q.c, q.v, q.s, api.OK)
		checkParse(t, q.c, q.s, q.v, api.OK)
	}
}

// Promises 6.3 and 6.4: for all columns, the text of a valid value leads back to the value, and
// other values have no text.
func TestFormatFollowsThePromise(t *testing.T) {
	for _, c := range edgeColumns() {
		for _, v := range edgeValues() {
			want, wantErr := "", slowCheck(c, v)
			if c.Type == api.Decimal && (c.Scale < 0 || c.Scale > 18) {
				wantErr = api.ErrArg
			}
			if wantErr == api.OK {
				want = slowFormat(c, v)
				checkParse(t, c, want, v, api.OK)
			}
			if s, e := Format(c, v); s != want || e != wantErr {
				checkFormat(t, c, v, want, wantErr)
			}
		}
	}
}

// Promise 6.3: the scale is looked at before the value, and for decimals only.
func TestFormatReportsErrorsInOrder(t *testing.T) {
	for _, scale := range scalesOutOfRange {
		for _, v := range []api.Value{{}, null(), {Null: true, N: 1}, bytesOf("x"), number(math.MaxInt64)} {
			checkFormat(t, column(api.Decimal, scale), v, "", api.ErrArg)
			checkFormat(t, api.Column{Type: api.Decimal, Scale: scale}, v, "", api.ErrArg)
		}
		checkFormat(t, column(api.Int, scale), number(-5), "-5", api.OK)
		checkFormat(t, column(api.Bool, scale), number(1), "true", api.OK)
		checkFormat(t, column(api.Bytes, scale), bytesOf("a"), `"61"`, api.OK)
		checkFormat(t, column(api.Date, scale), number(31), "1970-02-01", api.OK)
		checkFormat(t, column(api.Date, scale), null(), "null", api.OK)
	}
	for scale := 0; scale <= 18; scale++ {
		checkFormat(t, column(api.Decimal, scale), null(), "null", api.OK)
		checkFormat(t, api.Column{Type: api.Decimal, Scale: scale}, null(), "", api.ErrNull)
		checkFormat(t, column(api.Decimal, scale), number(api.MaxDecimal+1), "", api.ErrRange)
		checkFormat(t, column(api.Decimal, scale), bytesOf("x"), "", api.ErrType)
	}
	for _, typ := range notTypes {
		checkFormat(t, column(typ, 0), null(), "", api.ErrArg)
	}
}

// Promise 6.4: the column comes first, then null, then the text.
func TestParseReportsErrorsInOrder(t *testing.T) {
	texts := []string{"", "null", "0", "-0", "true", `""`, `"0`, "1970-01-01", "1970-13-01", "1.5", "99999999999999999999"}
	for _, s := range texts {
		for _, nullable := range []bool{false, true} {
			for _, typ := range notTypes {
				checkParse(t, api.Column{Type: typ, Nullable: nullable}, s, api.Value{}, api.ErrArg)
			}
			for _, scale := range scalesOutOfRange {
				checkParse(t, api.Column{Type: api.Decimal, Scale: scale, Nullable: nullable}, s, api.Value{}, api.ErrArg)
			}
		}
	}
	for _, c := range edgeColumns() {
		for _, s := range texts {
			want, wantErr := slowParse(c, s)
			checkParse(t, c, s, want, wantErr)
		}
	}
	for _, typ := range types {
		checkParse(t, api.Column{Type: typ}, "null", api.Value{}, api.ErrNull)
		checkParse(t, column(typ, 0), "null", null(), api.OK)
	}
}

// Promise 6.4: null has one text only.
func TestParseOfOtherTextsThanNull(t *testing.T) {
	for _, s := range []string{"Null", "NULL", "nul", "nulll", " null", "null ", "null\n", "null\x00", "-null", "nil", "", "ull", `"null"`} {
		for _, typ := range types {
			checkParse(t, column(typ, 0), s, api.Value{}, api.ErrForm)
			checkParse(t, api.Column{Type: typ}, s, api.Value{}, api.ErrForm)
		}
	}
}

// Promise 6.4: for Int, form comes before size, and size is that of 64 bits.
func TestParseOfInts(t *testing.T) {
	c := column(api.Int, 0)
	for _, s := range []string{
		"", "-", "--1", "+1", "+0", "-0", "-00", "00", "01", "-01", "007", "-007", " 1", "1 ", "1\n", "\t1", "1.0", "1.", ".1", "1e3", "0x1f",
		"1_000", "1,000", "1-", "1-1", "- 1", "−1", "１", "١", "a", "1a", "a1", "/", ":", "1/", "1:", "\x00", "1\x00", "\xff", "true", `"00"`, "1970-01-01",
		"09223372036854775808", "-09223372036854775809", "9223372036854775808x", "-9223372036854775809-", "99999999999999999999.0",
		strings.Repeat("0", 1000), strings.Repeat("9", 1000) + "x", "x" + strings.Repeat("9", 1000), strings.Repeat("-", 1000),
	} {
		checkParse(t, c, s, api.Value{}, api.ErrForm)
	}
	for _, s := range []string{
		"9223372036854775808", "-9223372036854775809", "9223372036854775809", "9223372036854775810", "9223372036854775817", "9223372036854775818",
		"-9223372036854775810", "-9223372036854775818", "9300000000000000000", "-9300000000000000000", "9999999999999999999", "-9999999999999999999",
		"10000000000000000000", "-10000000000000000000", "18446744073709551615", "18446744073709551616", "18446744073709551617", "-18446744073709551616",
		"-18446744073709551617", "27670116110564327424", "92233720368547758070", "-92233720368547758080", "340282366920938463463374607431768211457",
		strings.Repeat("9", 1<<16), "-" + strings.Repeat("9", 1<<16), "1" + strings.Repeat("0", 1000), "-1" + strings.Repeat("0", 1000),
	} {
		checkParse(t, c, s, api.Value{}, api.ErrOverflow)
	}
	for _, n := range edgeNumbers() {
		checkParse(t, c, strconv.FormatInt(n, 10), number(n), api.OK)
		for _, shift := range []int64{-1000, -10, -1, 1, 10, 1000} { // without wraparound
			checkParseIsSlowParse(t, new(big.Int).Add(big.NewInt(n), big.NewInt(shift)).String())
		}
	}
}

// Promise 6.4.
func TestParseOfBools(t *testing.T) {
	for _, s := range []string{
		"", "0", "1", "t", "f", "T", "F", "True", "False", "TRUE", "FALSE", "tru", "fals", "truee", "falsee", "true ", " true", "false\n", "true\x00",
		"truefalse", "yes", "no", "-true", `"01"`, `"true"`,
	} {
		checkParse(t, column(api.Bool, 0), s, api.Value{}, api.ErrForm)
	}
}

// Promise 6.4: for Bytes, form comes before size, which is counted in bytes and not in digits.
func TestParseOfBytes(t *testing.T) {
	c := column(api.Bytes, 0)
	for _, s := range []string{
		"", `"`, `"""`, `""""`, `"0"`, `"000"`, `0102`, `"0102`, `0102"`, `'0102'`, "`0102`", `"0102""`, `""0102"`, `"01"02"`, `"01""02"`, `"01 02"`, `" 0102"`,
		`"0102" `, ` "0102"`, "\"0102\"\n", "\"0102\"\x00", `"0A"`, `"A0"`, `"FF"`, `"0g"`, `"g0"`, `"0G"`, `"0x01"`, `"/0"`, `"0/"`, `":0"`, `"0:"`, "\"`0\"", "\"0`\"", `"@0"`,
		`"é"`, `"\x01"`, "\"\x01\x02\"", "\"\xff\xff\"", `"-1"`, "x", "1", "true",
		`"` + strings.Repeat("0", 127) + `"`, `"` + strings.Repeat("0", 129) + `"`, `"` + strings.Repeat("0", 131) + `"`,
		`"` + strings.Repeat("00", 64) + `A0"`, `"` + strings.Repeat("00", 1000) + `0g"`, `"g0` + strings.Repeat("00", 1000) + `"`, `"` + strings.Repeat("00", 65), strings.Repeat("00", 65) + `"`,
	} {
		checkParse(t, c, s, api.Value{}, api.ErrForm)
	}
	for size := range 200 {
		s := `"` + strings.Repeat("5e", size) + `"`
		if size <= 64 {
			checkParse(t, c, s, bytesOf(strings.Repeat("\x5e", size)), api.OK)
		} else {
			checkParse(t, c, s, api.Value{}, api.ErrRange)
		}
	}
	checkParse(t, c, `"`+strings.Repeat("ff", 1<<16)+`"`, api.Value{}, api.ErrRange)
	for high := range 256 { // all pairs of bytes between quotes
		for low := range 256 {
			s := string([]byte{'"', byte(high), byte(low), '"'})
			want, wantErr := slowParse(c, s)
			checkParse(t, c, s, want, wantErr)
		}
	}
}

// Promise 6.4: the errors are those of date.Parse.
func TestParseOfDates(t *testing.T) {
	c := column(api.Date, 0)
	for _, q := range []struct {
		s    string
		want api.Errno
	}{
		{"", api.ErrForm},
		{"1970-1-1", api.ErrForm},
		{"1970/01/01", api.ErrForm},
		{"01970-01-01", api.ErrForm},
		{"-970-01-01", api.ErrForm},
		{"1970-01-01 ", api.ErrForm},
		{"0", api.ErrForm},
		{"0000-01-01", api.ErrRange},
		{"2023-02-29", api.ErrRange},
		{"2023-00-10", api.ErrRange},
		{"2023-13-10", api.ErrRange},
		{"2023-12-00", api.ErrRange},
		{"2023-12-32", api.ErrRange},
	} {
		checkParse(t, c, q.s, api.Value{}, q.want)
	}
	for n := api.MinDate; n <= api.MaxDate; n += 997 {
		s, _ := date.Format(n)
		checkParse(t, c, s, number(int64(n)), api.OK)
		checkFormat(t, c, number(int64(n)), s, api.OK)
	}
}

// Promise 6.4: also texts that Format does not return; the errors are those of decimal.Parse.
func TestParseOfDecimals(t *testing.T) {
	for _, q := range []struct {
		s     string
		scale int
		want  int64
	}{
		{"1.5", 2, 150}, {"1", 2, 100}, {"-7", 3, -7000}, {"0", 18, 0}, {"0.0", 18, 0}, {"-0.5", 3, -500}, {"9", 17, 900000000000000000}, {"12", 0, 12},
	} {
		checkParse(t, column(api.Decimal, q.scale), q.s, number(q.want), api.OK)
	}
	for _, q := range []struct {
		s     string
		scale int
		want  api.Errno
	}{
		{"", 2, api.ErrForm}, {"-0", 2, api.ErrForm}, {"-0.00", 2, api.ErrForm}, {"01", 2, api.ErrForm}, {"1.", 2, api.ErrForm}, {".5", 2, api.ErrForm},
		{"1.5x", 0, api.ErrForm}, {"+1", 2, api.ErrForm}, {"true", 2, api.ErrForm},
		{"1.555", 2, api.ErrOverflow}, {"1.0", 0, api.ErrOverflow}, {"1", 18, api.ErrOverflow}, {"1000000000000000000", 0, api.ErrOverflow},
		{"-9223372036854775808", 0, api.ErrOverflow}, {"99999999999999999999", 0, api.ErrOverflow},
	} {
		checkParse(t, column(api.Decimal, q.scale), q.s, api.Value{}, q.want)
	}
}

// Promise 6.4: each byte in each place of texts of all types, read as texts of all types.
func TestParseWithEachByteInEachPlace(t *testing.T) {
	for _, s := range []string{"null", "true", "false", "-120", "0", "10", `"0a9f"`, `""`, "2000-02-29", "-12.34", "9223372036854775807"} {
		for place := range len(s) {
			checkParseIsSlowParse(t, s[:place])
			checkParseIsSlowParse(t, s[place:])
			for b := range 256 {
				other := string([]byte{byte(b)})
				checkParseIsSlowParse(t, s[:place]+other+s[place+1:])
				checkParseIsSlowParse(t, s[:place]+other+s[place:])
				checkParseIsSlowParse(t, s+other)
			}
		}
	}
}

// Promises 6.3 and 6.4: values of all types at random.
func TestTextsOfRandomValues(t *testing.T) {
	r := rand.New(rand.NewSource(1))
	for range 20000 {
		c := column(types[r.Intn(len(types))], r.Intn(19))
		n := int64(r.Uint64()) >> r.Intn(64)
		content := make([]byte, r.Intn(api.MaxBytes+1))
		r.Read(content)
		for _, v := range []api.Value{number(n), bytesOf(string(content)), number(n % api.MaxDate), number(n % (api.MaxDecimal + 1))} {
			if Check(c, v) == api.OK {
				s := slowFormat(c, v)
				checkFormat(t, c, v, s, api.OK)
				checkParse(t, c, s, v, api.OK)
			}
		}
	}
}

// Promise 6.5, and the example of the chapter.
func TestKnownBinaryForms(t *testing.T) {
	for _, q := range []struct {
		v api.Value
		s string
	}{
		{null(), "\x00"},
		{number(3), "\x01\x06\x00"},
		{number(0), "\x01\x00\x00"},
		{number(-1), "\x01\x01\x00"},
		{number(1), "\x01\x02\x00"},
		{number(150), "\x01\xac\x02\x00"},
		{number(math.MaxInt64), "\x01\xfe\xff\xff\xff\xff\xff\xff\xff\xff\x01\x00"},
		{number(math.MinInt64), "\x01\xff\xff\xff\xff\xff\xff\xff\xff\xff\x01\x00"},
		{bytesOf("ab"), "\x01\x00\x02ab"},
		{bytesOf("\x00\xff"), "\x01\x00\x02\x00\xff"},
		{api.Value{N: -2, S: "\x01"}, "\x01\x03\x01\x01"},
		{bytesOf(strings.Repeat("x", 127)), "\x01\x00\x7f" + strings.Repeat("x", 127)},
		{bytesOf(strings.Repeat("x", 128)), "\x01\x00\x80\x01" + strings.Repeat("x", 128)},
	} {
		checkPut(t, q.v, q.s)
		checkGet(t, q.s, 0, q.v, len(q.s), api.OK)
		checkGet(t, "\x01"+q.s+"\x02\x80", 1, q.v, 1+len(q.s), api.OK)
	}
}

// Promise 6.5, and the consequence: values need not be valid for any type. A null value has one
// binary form, whatever else it holds.
func TestBinaryFormsOfManyValues(t *testing.T) {
	values := edgeValues()
	r := rand.New(rand.NewSource(2))
	for range 5000 {
		content := make([]byte, r.Intn(300))
		r.Read(content)
		values = append(values, api.Value{N: int64(r.Uint64()) >> r.Intn(64), S: string(content)})
	}
	for _, v := range values {
		want, read := "\x00", null()
		if !v.Null {
			want = "\x01" + varint.Put(varint.Zig(v.N)) + varint.Put(uint64(len(v.S))) + v.S
			read = v
		}
		checkPut(t, v, want)
		checkGet(t, want, 0, read, len(want), api.OK)
		checkGet(t, "\x00\x01\x02"+want+want, 3, read, 3+len(want), api.OK)
	}
}

// Promise 6.5: forms that follow each other are read one by one.
func TestGetOfFormsInARow(t *testing.T) {
	values := []api.Value{number(7), null(), bytesOf("\x00\x01"), {}, null(), null(), {N: math.MinInt64, S: strings.Repeat("y", 200)}, number(-300)}
	s := ""
	for _, v := range values {
		s += Put(v)
	}
	at := 0
	for _, v := range values {
		next := at + len(Put(v))
		checkGet(t, s, at, v, next, api.OK)
		at = next
	}
	checkGet(t, s, at, api.Value{}, 0, api.ErrShort)
}

// Promise 6.5.
func TestGetRefusesIndexesOutOfRange(t *testing.T) {
	for _, s := range []string{"", "\x00", "\x01\x06\x00", "\x02", strings.Repeat("\x00", 300)} {
		for _, at := range []int{-1, -2, math.MinInt32, math.MinInt, math.MinInt + 1, len(s) + 1, len(s) + 2, 1 << 32, math.MaxInt - 1, math.MaxInt} {
			checkGet(t, s, at, api.Value{}, 0, api.ErrRange)
		}
		checkGet(t, s, len(s), api.Value{}, 0, api.ErrShort)
	}
}

// Promise 6.5: no form ends too early.
func TestGetOfShortenedForms(t *testing.T) {
	for _, v := range []api.Value{
		null(), {}, number(3), number(math.MinInt64), bytesOf("a"), bytesOf("\x00\x00\x00"), {N: 300, S: strings.Repeat("z", 64)}, bytesOf(strings.Repeat("\x01", 200)),
	} {
		s := Put(v)
		for size := range s {
			checkGet(t, s[:size], 0, api.Value{}, 0, api.ErrShort)
			checkGet(t, "\x00\x00"+s[:size], 2, api.Value{}, 0, api.ErrShort)
		}
	}
}

// Promise 6.5: the first byte.
func TestGetRefusesOtherFirstBytes(t *testing.T) {
	for b := 2; b < 256; b++ {
		for _, rest := range []string{"", "\x00", "\x06\x00", "\x80", "\x80\x00", strings.Repeat("\xff", 20)} {
			checkGet(t, string([]byte{byte(b)})+rest, 0, api.Value{}, 0, api.ErrForm)
		}
	}
}

// Promise 6.5: the errors of the parts, in their order. A length of 64 bits is never reached.
func TestGetReportsErrorsOfParts(t *testing.T) {
	const (
		nine    = "\xff\xff\xff\xff\xff\xff\xff\xff\xff"
		tooLong = nine + "\xff"
		tooBig  = nine + "\x02"
		padded  = "\x80\x00"
		cut     = "\x80"
	)
	for _, q := range []struct {
		s    string
		want api.Errno
	}{
		{"\x01", api.ErrShort},
		{"\x01" + cut, api.ErrShort},
		{"\x01" + nine, api.ErrShort},
		{"\x01" + tooLong, api.ErrOverflow},
		{"\x01" + tooBig, api.ErrOverflow},
		{"\x01" + tooBig + padded, api.ErrOverflow},
		{"\x01" + padded, api.ErrForm},
		{"\x01" + padded + tooBig, api.ErrForm},
		{"\x01" + padded + cut, api.ErrForm},
		{"\x01" + padded + "\x05", api.ErrForm},
		{"\x01\x00", api.ErrShort},
		{"\x01\x00" + cut, api.ErrShort},
		{"\x01\x00" + nine, api.ErrShort},
		{"\x01\x00" + tooLong, api.ErrOverflow},
		{"\x01\x00" + tooBig, api.ErrOverflow},
		{"\x01\x00" + padded, api.ErrForm},
		{"\x01\x00\x82\x00ab", api.ErrForm},
		{"\x01\x00\x01", api.ErrShort},
		{"\x01\x00\x03ab", api.ErrShort},
		{"\x01\x00\x7f" + strings.Repeat("x", 126), api.ErrShort},
		{"\x01\x00\x80\x01" + strings.Repeat("x", 127), api.ErrShort},
		{"\x01\x00" + varint.Put(1<<31) + "ab", api.ErrShort},
		{"\x01\x00" + varint.Put(1<<32+1) + "ab", api.ErrShort},
		{"\x01\x00" + varint.Put(math.MaxInt64) + "ab", api.ErrShort},
		{"\x01\x00" + varint.Put(math.MaxInt64-1) + "ab", api.ErrShort},
		{"\x01\x00" + varint.Put(1<<63) + "ab", api.ErrShort},
		{"\x01\x00" + varint.Put(1<<63+1) + "ab", api.ErrShort},
		{"\x01\x00" + varint.Put(math.MaxUint64) + "ab", api.ErrShort},
		{"\x01\x00" + varint.Put(math.MaxUint64-20) + "ab", api.ErrShort},
	} {
		checkGet(t, q.s, 0, api.Value{}, 0, q.want)
		checkGet(t, "\x00"+q.s, 1, api.Value{}, 0, q.want)
	}
}

// Promise 6.5: all strings with up to six of these bytes, at each index.
func TestGetOfAllShortStrings(t *testing.T) {
	const bytes = "\x00\x01\x02\x03\x7f\x80\x82"
	var try func(s string)
	try = func(s string) {
		for at := range len(s) + 1 {
			want, wantNext, wantErr := slowGet(s, at)
			if v, next, e := Get(s, at); v != want || next != wantNext || e != wantErr {
				checkGet(t, s, at, want, wantNext, wantErr)
			}
		}
		if len(s) < 6 {
			for i := range len(bytes) {
				try(s + bytes[i:i+1])
			}
		}
	}
	try("")
}
