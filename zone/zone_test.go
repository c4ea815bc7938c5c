package zone

import (
	"math"
	"math/rand"
	"slices"
	"strings"
	"testing"

	"micropart/api"
	"micropart/value"
	"micropart/varint"
)

var (
	types    = []int{api.Int, api.Bool, api.Bytes, api.Date, api.Decimal}
	notTypes = []int{0, -1, -5, 6, 7, 256 + api.Int, 1<<32 + api.Bytes, math.MinInt, math.MinInt + api.Decimal, math.MaxInt}

	noValue  = api.Value{Null: true}
	leftover = api.Value{Null: true, N: 7, S: "x"} // null, with what has no meaning
)

func number(n int64) api.Value { return api.Value{N: n} }

func bytesOf(s string) api.Value { return api.Value{S: s} }

// zoneOf returns a zone written out.
func zoneOf(rows, nulls int, least, greatest api.Value) api.Zone {
	return api.Zone{Rows: rows, Nulls: nulls, Min: least, Max: greatest}
}

// edgeValues returns values of all kinds, also such that are valid for no type, and such that are equal for one type and not the same.
func edgeValues() []api.Value {
	values := []api.Value{noValue, leftover, {Null: true, N: math.MinInt64}, {Null: true, S: "\xff"}}
	for _, n := range []int64{math.MinInt64, -api.MaxDecimal - 1, -api.MaxDecimal, api.MinDate - 1, api.MinDate, -1, 0, 1, 2, api.MaxDate, api.MaxDate + 1, api.MaxDecimal, api.MaxDecimal + 1, math.MaxInt64} {
		values = append(values, number(n))
	}
	for _, s := range []string{"\x00", "a", "ab", "b", "B", "\x7f", "\x80", "\xff", strings.Repeat("a", 64), strings.Repeat("a", 65)} {
		values = append(values, bytesOf(s))
	}
	return append(values, api.Value{N: 1, S: "a"}, api.Value{N: 2, S: "a"}, api.Value{N: 1, S: "b"}, api.Value{N: -1, S: "b"})
}

// lists calls f with all lists of at most n of the values.
func lists(values []api.Value, n int, f func(l []api.Value)) {
	var extend func(l []api.Value)
	extend = func(l []api.Value) {
		f(slices.Clone(l))
		if len(l) == n {
			return
		}
		for _, v := range values {
			extend(append(slices.Clone(l), v))
		}
	}
	extend(nil)
}

// slowLess compares two values that are not null, as promise 6.2 words it.
func slowLess(typ int, a, b api.Value) bool {
	if typ == api.Bytes {
		return slices.Compare([]byte(a.S), []byte(b.S)) < 0
	}
	return a.N < b.N
}

// slowLeast returns the first one of the values that are not null such that none is less.
func slowLeast(typ int, l []api.Value) api.Value {
	for _, v := range l {
		if !v.Null && !slices.ContainsFunc(l, func(w api.Value) bool { return !w.Null && slowLess(typ, w, v) }) {
			return v
		}
	}
	return noValue
}

// slowGreatest returns the first one of the values that are not null such that none is greater.
func slowGreatest(typ int, l []api.Value) api.Value {
	for _, v := range l {
		if !v.Null && !slices.ContainsFunc(l, func(w api.Value) bool { return !w.Null && slowLess(typ, v, w) }) {
			return v
		}
	}
	return noValue
}

// slowOf finds each part of the zone on its own.
func slowOf(typ int, l []api.Value) api.Zone {
	nulls := 0
	for _, v := range l {
		if v.Null {
			nulls++
		}
	}
	return zoneOf(len(l), nulls, slowLeast(typ, l), slowGreatest(typ, l))
}

// slowJoin takes the least and the greatest one of both zones for lists of two values.
func slowJoin(typ int, a, b api.Zone) api.Zone {
	return zoneOf(a.Rows+b.Rows, a.Nulls+b.Nulls, slowLeast(typ, []api.Value{a.Min, b.Min}), slowGreatest(typ, []api.Value{a.Max, b.Max}))
}

// slowCheck asks one question of the promise after the other.
func slowCheck(c api.Column, z api.Zone) bool {
	switch {
	case !slices.Contains(types, c.Type):
		return false
	case z.Nulls < 0, z.Rows < z.Nulls, 4096 < z.Rows:
		return false
	case z.Nulls > 0 && !c.Nullable:
		return false
	case z.Nulls == z.Rows:
		return z.Min == noValue && z.Max == noValue
	case z.Min.Null, z.Max.Null:
		return false
	case value.Check(c, z.Min) != api.OK, value.Check(c, z.Max) != api.OK:
		return false
	case z.Rows-z.Nulls == 1:
		return z.Min == z.Max
	}
	return !slowLess(c.Type, z.Max, z.Min)
}

// slowPut writes the parts one after the other.
func slowPut(z api.Zone) string {
	parts := ""
	for _, n := range []int{z.Rows, z.Nulls} {
		if n < 0 {
			n = 0
		}
		parts += varint.Put(uint64(n))
	}
	return parts + value.Put(z.Min) + value.Put(z.Max)
}

// slowGet reads one part after the other off the front of s.
func slowGet(s string, at int) (api.Zone, int, api.Errno) {
	if at < 0 || at > len(s) {
		return api.Zone{}, 0, api.ErrRange
	}
	rest := s[at:]
	counts := [2]int{}
	for i := range counts {
		n, size, e := varint.Get(rest, 0)
		if e != api.OK {
			return api.Zone{}, 0, e
		}
		if n > 4096 {
			return api.Zone{}, 0, api.ErrForm
		}
		counts[i], rest = int(n), rest[size:]
	}
	bounds := [2]api.Value{}
	for i := range bounds {
		v, size, e := value.Get(rest, 0)
		if e != api.OK {
			return api.Zone{}, 0, e
		}
		bounds[i], rest = v, rest[size:]
	}
	return zoneOf(counts[0], counts[1], bounds[0], bounds[1]), len(s) - len(rest), api.OK
}

func checkOf(t *testing.T, typ int, l []api.Value, want api.Zone) {
	t.Helper()
	before := slices.Clone(l)
	if z := Of(typ, l); z != want {
		t.Errorf("Of(%d, %+v) = %+v, want %+v", typ, l, z, want)
	}
	if !slices.Equal(l, before) {
		t.Errorf("Of changed its list %+v", before)
	}
}

func checkJoin(t *testing.T, typ int, a, b, want api.Zone) {
	t.Helper()
	if z := Join(typ, a, b); z != want {
		t.Errorf("Join(%d, %+v, %+v) = %+v, want %+v", typ, a, b, z, want)
	}
}

func checkCheck(t *testing.T, c api.Column, z api.Zone, want bool) {
	t.Helper()
	if ok := Check(c, z); ok != want {
		t.Errorf("Check(%+v, %+v) = %t, want %t", c, z, ok, want)
	}
}

func checkPut(t *testing.T, z api.Zone, want string) {
	t.Helper()
	if s := Put(z); s != want {
		t.Errorf("Put(%+v) = %x, want %x", z, s, want)
	}
}

func checkGet(t *testing.T, s string, at int, want api.Zone, wantNext int, wantErr api.Errno) {
	t.Helper()
	if z, next, e := Get(s, at); z != want || next != wantNext || e != wantErr {
		t.Errorf("Get(%x, %d) = %+v, %d, %d, want %+v, %d, %d", s, at, z, next, e, want, wantNext, wantErr)
	}
}

// checkRefused checks that Get returns this error for s, wherever it begins.
func checkRefused(t *testing.T, s string, want api.Errno) {
	t.Helper()
	checkGet(t, s, 0, api.Zone{}, 0, want)
	checkGet(t, "\x00\x00\x00"+s, 3, api.Zone{}, 0, want)
}

// Promise 14.1, and the example of the chapter.
func TestOfKnownLists(t *testing.T) {
	for _, q := range []struct {
		typ  int
		l    []api.Value
		want api.Zone
	}{
		{api.Int, []api.Value{number(3), noValue, number(1)}, zoneOf(3, 1, number(1), number(3))}, // the example
		{api.Int, nil, zoneOf(0, 0, noValue, noValue)},
		{api.Int, []api.Value{}, zoneOf(0, 0, noValue, noValue)},
		{api.Int, []api.Value{number(5)}, zoneOf(1, 0, number(5), number(5))},
		{api.Int, []api.Value{noValue, noValue}, zoneOf(2, 2, noValue, noValue)},
		{api.Int, []api.Value{number(-1), number(-3)}, zoneOf(2, 0, number(-3), number(-1))},
		{api.Int, []api.Value{noValue, number(-3)}, zoneOf(2, 1, number(-3), number(-3))},
		{api.Int, []api.Value{number(0), number(9), noValue}, zoneOf(3, 1, number(0), number(9))},
		{api.Int, []api.Value{number(math.MaxInt64), number(math.MinInt64)}, zoneOf(2, 0, number(math.MinInt64), number(math.MaxInt64))},
		{api.Bool, []api.Value{number(1), number(1), number(0)}, zoneOf(3, 0, number(0), number(1))},
		{api.Bytes, []api.Value{bytesOf("b"), bytesOf("ab"), bytesOf("a")}, zoneOf(3, 0, bytesOf("a"), bytesOf("b"))},
		{api.Bytes, []api.Value{bytesOf("a"), bytesOf(""), noValue}, zoneOf(3, 1, bytesOf(""), bytesOf("a"))},
		{api.Bytes, []api.Value{bytesOf("\x80"), bytesOf("\x7f"), bytesOf("\xff")}, zoneOf(3, 0, bytesOf("\x7f"), bytesOf("\xff"))},
		{api.Date, []api.Value{number(-5), number(-4)}, zoneOf(2, 0, number(-5), number(-4))},
		{api.Decimal, []api.Value{number(100), number(99)}, zoneOf(2, 0, number(99), number(100))},
	} {
		checkOf(t, q.typ, q.l, q.want)
	}
}

// Promise 14.1: of equal values that are not the same, Min and Max are the first one.
func TestOfTakesTheFirstOfEqualValues(t *testing.T) {
	a, b, c := api.Value{N: 1, S: "a"}, api.Value{N: 1, S: "b"}, api.Value{N: 2, S: "a"}
	for _, typ := range slices.Concat(types, notTypes) {
		if typ == api.Bytes {
			checkOf(t, typ, []api.Value{a, c}, zoneOf(2, 0, a, a))
			checkOf(t, typ, []api.Value{c, a}, zoneOf(2, 0, c, c))
			checkOf(t, typ, []api.Value{c, b, a}, zoneOf(3, 0, c, b))
			continue
		}
		checkOf(t, typ, []api.Value{a, b}, zoneOf(2, 0, a, a))
		checkOf(t, typ, []api.Value{b, a}, zoneOf(2, 0, b, b))
		checkOf(t, typ, []api.Value{noValue, b, c, a}, zoneOf(4, 1, b, c))
	}
}

// Promise 14.1: the null values of a zone have N 0 and S "", whatever those of the list have.
func TestOfNullValuesWithANumberOrAString(t *testing.T) {
	for _, typ := range types {
		checkOf(t, typ, []api.Value{leftover}, zoneOf(1, 1, noValue, noValue))
		checkOf(t, typ, []api.Value{leftover, leftover, noValue}, zoneOf(3, 3, noValue, noValue))
		checkOf(t, typ, []api.Value{{Null: true, N: math.MinInt64}, {}, {Null: true, S: "\xff"}}, zoneOf(3, 2, api.Value{}, api.Value{}))
	}
}

// Promise 14.1: all short lists, with values that need not be valid and numbers that are no types.
func TestOfAllShortLists(t *testing.T) {
	for _, typ := range append([]int{6, math.MinInt}, types...) {
		lists(edgeValues(), 3, func(l []api.Value) {
			if want := slowOf(typ, l); Of(typ, l) != want {
				checkOf(t, typ, l, want)
			}
		})
	}
}

// Promise 14.1: the length of a list is not restricted.
func TestOfLongLists(t *testing.T) {
	r := rand.New(rand.NewSource(141))
	for _, size := range []int{api.MaxBatch, api.MaxBatch + 1, 20000} {
		l := make([]api.Value, size)
		nulls := 0
		for i := range l {
			l[i] = number(r.Int63n(1 << 40))
			if r.Intn(3) == 0 {
				l[i] = noValue
				nulls++
			}
		}
		least, greatest := r.Intn(size/2), size/2+r.Intn(size/2)
		for _, i := range []int{least, greatest} {
			if l[i].Null {
				nulls--
			}
		}
		l[least], l[greatest] = number(-1), number(1<<40)
		if z := Of(api.Int, l); z != zoneOf(size, nulls, number(-1), number(1<<40)) {
			t.Errorf("Of %d values = %+v", size, z)
		}
	}
}

// Promise 14.1.
func TestJoinOfKnownZones(t *testing.T) {
	nothing := zoneOf(0, 0, noValue, noValue)
	a := zoneOf(3, 1, number(1), number(3))
	for _, q := range []struct{ a, b, want api.Zone }{
		{nothing, nothing, nothing},
		{a, nothing, a},
		{nothing, a, a},
		{a, a, zoneOf(6, 2, number(1), number(3))},
		{a, zoneOf(4, 0, number(-2), number(9)), zoneOf(7, 1, number(-2), number(9))},
		{zoneOf(4, 0, number(-2), number(9)), a, zoneOf(7, 1, number(-2), number(9))},
		{a, zoneOf(2, 0, number(2), number(4)), zoneOf(5, 1, number(1), number(4))},
		{a, zoneOf(2, 0, number(0), number(2)), zoneOf(5, 1, number(0), number(3))},
		{a, zoneOf(2, 2, noValue, noValue), zoneOf(5, 3, number(1), number(3))},
		{zoneOf(2, 2, noValue, noValue), zoneOf(1, 1, noValue, noValue), zoneOf(3, 3, noValue, noValue)},
		{zoneOf(1, 0, number(-5), number(-5)), zoneOf(2, 2, noValue, noValue), zoneOf(3, 2, number(-5), number(-5))},
		{zoneOf(api.MaxBatch, 5, number(1), number(2)), zoneOf(api.MaxBatch, 6, number(2), number(3)), zoneOf(2*api.MaxBatch, 11, number(1), number(3))},
	} {
		checkJoin(t, api.Int, q.a, q.b, q.want)
	}
	checkJoin(t, api.Bytes, zoneOf(2, 0, bytesOf("ab"), bytesOf("b")), zoneOf(1, 0, bytesOf("a"), bytesOf("a")), zoneOf(3, 0, bytesOf("a"), bytesOf("b")))
}

// Promise 14.1: of equal values that are not the same, those of the first zone.
func TestJoinTakesEqualValuesOfTheFirstZone(t *testing.T) {
	for _, typ := range slices.Concat(types, notTypes) {
		a, b := zoneOf(2, 0, api.Value{N: 1, S: "a"}, api.Value{N: 2, S: "b"}), zoneOf(3, 0, api.Value{N: 1, S: "c"}, api.Value{N: 2, S: "d"})
		if typ == api.Bytes {
			a, b = zoneOf(2, 0, api.Value{S: "a"}, api.Value{S: "b"}), zoneOf(3, 0, api.Value{N: 1, S: "a"}, api.Value{N: 2, S: "b"})
		}
		checkJoin(t, typ, a, b, zoneOf(5, 0, a.Min, a.Max))
		checkJoin(t, typ, b, a, zoneOf(5, 0, b.Min, b.Max))
	}
}

// Promise 14.1: Min and Max each for itself, also of zones that no list has.
func TestJoinOfAllZonesFollowsThePromise(t *testing.T) {
	values := []api.Value{noValue, leftover, {}, number(1), number(-1), bytesOf("a"), bytesOf("b"), {N: 1, S: "a"}, {N: 1, S: "b"}}
	for _, typ := range append([]int{6, -1}, types...) {
		lists(values, 4, func(l []api.Value) {
			if len(l) < 4 {
				return
			}
			a, b := zoneOf(5, -3, l[0], l[1]), zoneOf(-7, 11, l[2], l[3])
			if want := slowJoin(typ, a, b); Join(typ, a, b) != want {
				checkJoin(t, typ, a, b, want)
			}
		})
	}
}

// The consequence: Join of the zones of two lists is the zone of both lists together, in any order.
func TestJoinIsTheZoneOfBothLists(t *testing.T) {
	values := map[int][]api.Value{
		api.Int:     {noValue, number(math.MinInt64), number(-1), number(0), number(math.MaxInt64)},
		api.Bool:    {noValue, number(0), number(1)},
		api.Bytes:   {noValue, bytesOf(""), bytesOf("\x00"), bytesOf("a"), bytesOf("\xff")},
		api.Date:    {noValue, number(api.MinDate), number(-1), number(api.MaxDate)},
		api.Decimal: {noValue, number(-api.MaxDecimal), number(3), number(api.MaxDecimal)},
	}
	for _, typ := range types {
		lists(values[typ], 4, func(l []api.Value) {
			want := Of(typ, l)
			for cut := range len(l) + 1 {
				a, b := Of(typ, l[:cut]), Of(typ, l[cut:])
				checkJoin(t, typ, a, b, want)
				checkJoin(t, typ, b, a, want)
			}
			slices.Reverse(l)
			checkOf(t, typ, l, want)
		})
	}
}

// Promise 14.2: zones of each type, and the bounds of their values.
func TestCheckOfKnownZones(t *testing.T) {
	long := bytesOf(strings.Repeat("z", 64))
	for _, q := range []struct {
		typ             int
		least, greatest api.Value
		want            bool
	}{
		{api.Int, number(math.MinInt64), number(math.MaxInt64), true},
		{api.Int, number(4), number(4), true},
		{api.Int, number(5), number(4), false},
		{api.Int, number(math.MaxInt64), number(math.MinInt64), false},
		{api.Int, number(4), api.Value{N: 5, S: "x"}, false},
		{api.Int, api.Value{N: 4, S: "x"}, number(5), false},
		{api.Bool, number(0), number(1), true},
		{api.Bool, number(1), number(1), true},
		{api.Bool, number(1), number(0), false},
		{api.Bool, number(0), number(2), false},
		{api.Bool, number(-1), number(1), false},
		{api.Bytes, bytesOf(""), long, true},
		{api.Bytes, bytesOf("ab"), bytesOf("b"), true},
		{api.Bytes, bytesOf("b"), bytesOf("ab"), false},
		{api.Bytes, bytesOf("a"), bytesOf(long.S + "z"), false},
		{api.Bytes, bytesOf(strings.Repeat("a", 65)), bytesOf("b"), false},
		{api.Bytes, number(1), bytesOf("b"), false},
		{api.Bytes, number(1), number(2), false},
		{api.Date, number(api.MinDate), number(api.MaxDate), true},
		{api.Date, number(api.MinDate - 1), number(0), false},
		{api.Date, number(0), number(api.MaxDate + 1), false},
		{api.Decimal, number(-api.MaxDecimal), number(api.MaxDecimal), true},
		{api.Decimal, number(-api.MaxDecimal - 1), number(0), false},
		{api.Decimal, number(0), number(api.MaxDecimal + 1), false},
	} {
		for _, nullable := range []bool{false, true} {
			c := api.Column{Name: "c", Type: q.typ, Nullable: nullable}
			checkCheck(t, c, zoneOf(2, 0, q.least, q.greatest), q.want)
			checkCheck(t, c, zoneOf(api.MaxBatch, 0, q.least, q.greatest), q.want)
			checkCheck(t, c, zoneOf(9, 7, q.least, q.greatest), q.want && nullable)
		}
	}
}

// Promise 14.2: a single value that is not null is both the least and the greatest one.
func TestCheckOfASingleValue(t *testing.T) {
	for _, q := range []struct {
		typ   int
		a, b  api.Value
		other api.Value
	}{
		{api.Int, number(3), number(3), number(4)},
		{api.Bool, number(0), number(0), number(1)},
		{api.Bytes, bytesOf("a"), bytesOf("a"), bytesOf("ab")},
		{api.Date, number(-1), number(-1), number(0)},
		{api.Decimal, number(99), number(99), number(100)},
	} {
		c := api.Column{Type: q.typ, Nullable: true}
		for _, nulls := range []int{0, 1, api.MaxBatch - 1} {
			checkCheck(t, c, zoneOf(nulls+1, nulls, q.a, q.b), true)
			checkCheck(t, c, zoneOf(nulls+1, nulls, q.a, q.other), false)
			checkCheck(t, c, zoneOf(nulls+1, nulls, q.other, q.a), false)
			checkCheck(t, c, zoneOf(nulls+1, nulls, noValue, noValue), false)
		}
		checkCheck(t, c, zoneOf(3, 1, q.a, q.other), true)
		checkCheck(t, c, zoneOf(2, 0, q.a, q.other), true)
	}
}

// Promise 14.2: the numbers of rows and of nulls.
func TestCheckOfNumbersOfRows(t *testing.T) {
	c := api.Column{Type: api.Int, Nullable: true}
	for _, q := range []struct {
		rows, nulls int
		want        bool
	}{
		{2, 0, true},
		{api.MaxBatch, 0, true},
		{api.MaxBatch, api.MaxBatch - 2, true},
		{api.MaxBatch + 1, 0, false},
		{api.MaxBatch + 1, api.MaxBatch - 1, false},
		{math.MaxInt, 0, false},
		{2, -1, false},
		{2, math.MinInt, false},
		{api.MaxBatch, -1, false},
		{math.MaxInt, -1, false},
		{math.MaxInt, math.MinInt, false},
		{-1, -3, false},
		{0, -2, false},
		{-1, 0, false},
		{2, 3, false},
		{2, math.MaxInt, false},
		{math.MinInt, math.MaxInt, false},
		{math.MinInt, 0, false},
	} {
		checkCheck(t, c, zoneOf(q.rows, q.nulls, number(1), number(2)), q.want)
		checkCheck(t, c, zoneOf(q.rows, q.nulls, number(1), number(1)), q.want)
		checkCheck(t, c, zoneOf(q.rows, q.nulls, noValue, noValue), false)
	}
}

// Promise 14.2: where no value is there, Min and Max are null values without a number and a string.
func TestCheckOfNullValues(t *testing.T) {
	for _, typ := range types {
		nullable, strict := api.Column{Type: typ, Nullable: true}, api.Column{Type: typ}
		for _, n := range []int{0, 1, 2, api.MaxBatch} {
			checkCheck(t, nullable, zoneOf(n, n, noValue, noValue), true)
			checkCheck(t, strict, zoneOf(n, n, noValue, noValue), n == 0)
			for _, v := range []api.Value{{}, number(1), bytesOf("a"), leftover, {Null: true, N: 1}, {Null: true, S: "a"}} {
				checkCheck(t, nullable, zoneOf(n, n, noValue, v), false)
				checkCheck(t, nullable, zoneOf(n, n, v, noValue), false)
				checkCheck(t, nullable, zoneOf(n, n, v, v), false)
			}
		}
		for _, n := range []int{-1, math.MinInt, api.MaxBatch + 1, math.MaxInt} {
			checkCheck(t, nullable, zoneOf(n, n, noValue, noValue), false)
		}
		for _, v := range []api.Value{noValue, leftover} {
			checkCheck(t, nullable, zoneOf(2, 0, v, api.Value{}), false)
			checkCheck(t, nullable, zoneOf(2, 0, api.Value{}, v), false)
			checkCheck(t, nullable, zoneOf(2, 0, v, v), false)
		}
	}
}

// Promise 14.2: no zone is that of a column without a type, and the scale is not looked at.
func TestCheckOfColumns(t *testing.T) {
	for _, typ := range notTypes {
		for _, nullable := range []bool{false, true} {
			c := api.Column{Name: "c", Type: typ, Nullable: nullable}
			checkCheck(t, c, zoneOf(0, 0, noValue, noValue), false)
			checkCheck(t, c, zoneOf(2, 2, noValue, noValue), false)
			checkCheck(t, c, zoneOf(2, 0, api.Value{}, api.Value{}), false)
		}
	}
	for _, typ := range types {
		for _, scale := range []int{-1, 0, 18, 19, math.MinInt, math.MaxInt} {
			c := api.Column{Type: typ, Scale: scale, Nullable: true}
			checkCheck(t, c, zoneOf(3, 1, api.Value{}, api.Value{}), true)
			checkCheck(t, c, zoneOf(1, 1, noValue, noValue), true)
		}
	}
}

// Promise 14.2: a zone can be that of a list exactly if it is that of some list. With the values of Bool, lists of up to four of them show it for all zones of so many rows.
func TestCheckIsTrueForTheZonesOfLists(t *testing.T) {
	bounds := []api.Value{noValue, leftover, number(-1), number(0), number(1), number(2), bytesOf("a"), {N: 1, S: "a"}}
	for _, nullable := range []bool{false, true} {
		c := api.Column{Type: api.Bool, Nullable: nullable}
		values := []api.Value{number(0), number(1)}
		if nullable {
			values = append(values, noValue)
		}
		ofSomeList := map[api.Zone]bool{}
		lists(values, 4, func(l []api.Value) { ofSomeList[Of(api.Bool, l)] = true })
		for rows := -2; rows <= 4; rows++ {
			for nulls := -2; nulls <= 6; nulls++ {
				for _, least := range bounds {
					for _, greatest := range bounds {
						z := zoneOf(rows, nulls, least, greatest)
						checkCheck(t, c, z, ofSomeList[z])
					}
				}
			}
		}
	}
}

// Promise 14.2: all kinds of values for all types.
func TestCheckFollowsThePromise(t *testing.T) {
	counts := [][2]int{{0, 0}, {1, 0}, {2, 0}, {3, 2}, {3, 1}, {2, 2}, {-1, -1}, {2, -1}, {2, 3}, {4096, 4095}, {4096, 3}, {4097, 3}}
	for _, typ := range append([]int{6, 0}, types...) {
		for _, nullable := range []bool{false, true} {
			c := api.Column{Type: typ, Nullable: nullable}
			for _, least := range edgeValues() {
				for _, greatest := range edgeValues() {
					for _, n := range counts {
						z := zoneOf(n[0], n[1], least, greatest)
						checkCheck(t, c, z, slowCheck(c, z))
					}
				}
			}
		}
	}
}

// Promise 14.3, with the bytes written out.
func TestPutOfKnownZones(t *testing.T) {
	for _, q := range []struct {
		z    api.Zone
		want string
	}{
		{zoneOf(3, 1, number(1), number(3)), "\x03\x01\x01\x02\x00\x01\x06\x00"},
		{zoneOf(0, 0, noValue, noValue), "\x00\x00\x00\x00"},
		{zoneOf(300, 128, noValue, number(-1)), "\xac\x02\x80\x01\x00\x01\x01\x00"},
		{zoneOf(2, 0, bytesOf("a"), bytesOf("bc")), "\x02\x00\x01\x00\x01a\x01\x00\x02bc"},
		{zoneOf(4096, 4096, leftover, leftover), "\x80\x20\x80\x20\x00\x00"},
		{zoneOf(4097, 5000, noValue, noValue), "\x81\x20\x88\x27\x00\x00"},
		{zoneOf(-1, -1, noValue, noValue), "\x00\x00\x00\x00"},
		{zoneOf(-1, 5, noValue, noValue), "\x00\x05\x00\x00"},
		{zoneOf(5, -1, noValue, noValue), "\x05\x00\x00\x00"},
		{zoneOf(math.MinInt, math.MinInt, noValue, noValue), "\x00\x00\x00\x00"},
		{zoneOf(math.MaxInt, 1, noValue, noValue), "\xff\xff\xff\xff\xff\xff\xff\xff\x7f\x01\x00\x00"},
		{zoneOf(1, 2, api.Value{N: 1, S: "a"}, api.Value{}), "\x01\x02\x01\x02\x01a\x01\x00\x00"},
	} {
		checkPut(t, q.z, q.want)
	}
}

// Promise 14.3: Get reads what Put wrote, wherever it stands; it does not ask whether the zone is that of a list.
func TestPutAndGetOfManyZones(t *testing.T) {
	for _, rows := range []int{0, 1, 127, 128, 4095, 4096} {
		for _, nulls := range []int{0, 2, 4096} {
			for _, least := range edgeValues() {
				for _, greatest := range edgeValues() {
					z := zoneOf(rows, nulls, least, greatest)
					s := slowPut(z)
					checkPut(t, z, s)
					if least.Null {
						z.Min = noValue
					}
					if greatest.Null {
						z.Max = noValue
					}
					checkGet(t, s, 0, z, len(s), api.OK)
					checkGet(t, "\xff\x01"+s+"\x00\x80", 2, z, 2+len(s), api.OK)
				}
			}
		}
	}
}

// Promise 14.3: an index that is not one of s comes before all else.
func TestGetRefusesIndicesOutOfRange(t *testing.T) {
	for _, s := range []string{"", "\x00\x00\x00\x00", "\x81\x20", "\x01\x00\x02"} {
		for _, at := range []int{-1, -2, math.MinInt, len(s) + 1, len(s) + 2, math.MaxInt} {
			checkGet(t, s, at, api.Zone{}, 0, api.ErrRange)
		}
		checkGet(t, s, len(s), api.Zone{}, 0, api.ErrShort)
	}
}

// Promise 14.3: a zone that ends too early, after each of its bytes.
func TestGetRefusesBeginnings(t *testing.T) {
	for _, z := range []api.Zone{
		zoneOf(3, 1, number(1), number(3)),
		zoneOf(300, 200, number(math.MinInt64), number(1000)),
		zoneOf(4096, 4096, noValue, noValue),
		zoneOf(2, 0, bytesOf("abc"), bytesOf(strings.Repeat("d", 200))),
	} {
		s := slowPut(z)
		for size := range len(s) {
			checkRefused(t, s[:size], api.ErrShort)
		}
	}
}

// Promise 14.3: the errors of each part; what follows the first part that is wrong does not matter.
func TestGetRefusesWrongParts(t *testing.T) {
	overflow := strings.Repeat("\xff", 10)
	long := strings.Repeat("\x80", 9) + "\x00" // too many bytes for 0
	wrongNumbers := map[string]api.Errno{
		"\x81\x20":                                  api.ErrForm, // 4097
		"\xff\xff\x03":                              api.ErrForm,
		"\x80\x80\x80\x80\x80\x20":                  api.ErrForm, // 2^40
		strings.Repeat("\x80", 9) + "\x01":          api.ErrForm, // 2^63, which no int is
		"\x83" + strings.Repeat("\x80", 8) + "\x01": api.ErrForm, // 2^63 + 3
		strings.Repeat("\xff", 9) + "\x01":          api.ErrForm, // 2^64 - 1
		"\x83\x00":                                  api.ErrForm,
		long:                                        api.ErrForm,
		overflow:                                    api.ErrOverflow,
		strings.Repeat("\xff", 9) + "\x02":          api.ErrOverflow,
		strings.Repeat("\x80", 11) + "\x01":         api.ErrOverflow,
	}
	wrongValues := map[string]api.Errno{
		"\x02":                     api.ErrForm,
		"\xff":                     api.ErrForm,
		"\x01\x80\x00\x00":         api.ErrForm,
		"\x01\x00\x80\x00":         api.ErrForm,
		"\x01" + overflow:          api.ErrOverflow,
		"\x01\x00" + overflow:      api.ErrOverflow,
		"\x01" + overflow + "\x00": api.ErrOverflow,
	}
	tails := []string{"", "\x00", "\x02", "\x00\x00\x00\x00", "\x81\x20\x81\x20", overflow}
	for _, tail := range tails {
		for part, e := range wrongNumbers {
			checkRefused(t, part+tail, e)
			checkRefused(t, "\x05"+part+tail, e)
			checkRefused(t, "\x80\x20"+part+tail, e)
		}
		for part, e := range wrongValues {
			checkRefused(t, "\x05\x00"+part+tail, e)
			checkRefused(t, "\x05\x00\x00"+part+tail, e)
			checkRefused(t, "\x05\x00\x01\x06\x00"+part+tail, e)
		}
	}
	checkRefused(t, "\x05\x00\x01\x00\x05abcd", api.ErrShort)
	checkRefused(t, "\x05\x00\x00\x01\x00\x05abcd", api.ErrShort)
	checkRefused(t, "\x05\x00\x01\x00"+strings.Repeat("\xff", 9)+"\x01abcd", api.ErrShort)
}

// Promise 14.3: random bytes, many of them the beginning of a zone.
func TestGetOfRandomStrings(t *testing.T) {
	r := rand.New(rand.NewSource(143))
	common := []byte{0, 1, 1, 2, 3, 5, 0x1f, 0x20, 0x21, 0x7f, 0x80, 0x81, 0xff}
	counts := map[api.Errno]int{}
	for range 200000 {
		b := make([]byte, r.Intn(24))
		for i := range b {
			b[i] = common[r.Intn(len(common))]
		}
		at := r.Intn(len(b)+3) - 1
		want, wantNext, wantErr := slowGet(string(b), at)
		checkGet(t, string(b), at, want, wantNext, wantErr)
		counts[wantErr]++
	}
	for _, e := range []api.Errno{api.OK, api.ErrRange, api.ErrShort, api.ErrForm} {
		if counts[e] < 100 {
			t.Errorf("only %d random strings lead to error %d", counts[e], e)
		}
	}
}
