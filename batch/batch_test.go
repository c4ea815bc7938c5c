package batch

import (
	"math"
	"math/rand"
	"reflect"
	"slices"
	"sort"
	"strings"
	"testing"

	"micropart/api"
	"micropart/schema"
	"micropart/value"
)

var (
	types    = []int{api.Int, api.Bool, api.Bytes, api.Date, api.Decimal}
	notTypes = []int{0, -1, -3, 6, 7, 256 + api.Int, 1<<32 + api.Bytes, math.MinInt, math.MinInt + api.Bytes, math.MaxInt}

	seqsOutOfRange = []int64{-1, -2, api.MaxSeq + 1, api.MaxSeq + 2, 1 << 41, 1<<63 - 1, math.MinInt64}
)

func number(n int64) api.Value { return api.Value{N: n} }

func bytesOf(s string) api.Value { return api.Value{S: s} }

func null() api.Value { return api.Value{Null: true} }

func rank(key api.Value, seq int64) api.Rank { return api.Rank{Key: key, Seq: seq} }

func rec(seq int64, row ...api.Value) api.Rec { return api.Rec{Seq: seq, Row: row} }

// column returns a column of a type, with scale 0.
func column(name string, typ int, nullable bool) api.Column {
	return api.Column{Name: name, Type: typ, Nullable: nullable}
}

func schemaOf(key int, columns ...api.Column) api.Schema {
	return api.Schema{Columns: columns, Key: key}
}

// keyOnly returns a schema whose only column, the key, may be null.
func keyOnly(typ int) api.Schema { return schemaOf(0, column("k", typ, true)) }

// keyAndMark returns a schema with a key, and a column that tells records with equal ranks apart.
func keyAndMark() api.Schema {
	return schemaOf(1, column("mark", api.Int, false), column("k", api.Int, true))
}

// marked returns a record for keyAndMark.
func marked(mark int, seq int64, key api.Value) api.Rec { return rec(seq, number(int64(mark)), key) }

// allTypes returns a schema with columns of all types; those that may be null are the later ones.
func allTypes(key int) api.Schema {
	return schemaOf(key,
		column("a", api.Int, false), column("b", api.Bool, false), column("c", api.Bytes, false), column("d", api.Date, false),
		api.Column{Name: "e", Type: api.Decimal, Scale: 2},
		column("f", api.Int, true), column("g", api.Bool, true), column("h", api.Bytes, true), column("i", api.Date, true),
		api.Column{Name: "j", Type: api.Decimal, Scale: 18, Nullable: true})
}

// invalidSchemas returns schemas with the error that schema.Check has for them.
func invalidSchemas() map[api.Errno][]api.Schema {
	many := make([]api.Column, api.MaxColumns+1)
	for i := range many {
		many[i] = column("a"+strings.Repeat("b", i), api.Int, true)
	}
	return map[api.Errno][]api.Schema{
		api.ErrArg:       {{}, {Columns: []api.Column{}}, {Key: 1}},
		api.ErrFull:      {schemaOf(0, many...)},
		api.ErrName:      {schemaOf(0, column("", api.Int, true)), schemaOf(0, column("key", api.Int, true))},
		api.ErrDuplicate: {schemaOf(0, column("k", api.Int, true), column("k", api.Int, true))},
		api.ErrType:      {schemaOf(0, column("k", 0, true)), schemaOf(0, column("k", 6, true))},
		api.ErrRange: {
			schemaOf(-1, column("k", api.Int, true)), schemaOf(1, column("k", api.Int, true)), schemaOf(math.MaxInt, column("k", api.Int, true)),
			schemaOf(0, api.Column{Name: "k", Type: api.Decimal, Scale: 19, Nullable: true}), schemaOf(0, api.Column{Name: "k", Type: api.Int, Scale: 1, Nullable: true}),
		},
	}
}

// validRow returns a row that is valid for allTypes.
func validRow() []api.Value {
	return []api.Value{number(-5), number(1), bytesOf("\xff\x00"), number(api.MinDate), number(api.MaxDecimal), null(), null(), bytesOf(""), null(), number(-api.MaxDecimal)}
}

// replaced returns a copy of a row with another value.
func replaced(row []api.Value, i int, v api.Value) []api.Value {
	row = slices.Clone(row)
	row[i] = v
	return row
}

// edgeValues returns values of all kinds, also such that are valid for no type, and such that are equal for one type and not the same.
func edgeValues() []api.Value {
	values := []api.Value{null(), {Null: true, N: 7, S: "x"}, {Null: true, N: math.MinInt64}, {N: 1, S: "a"}, {N: 2, S: "a"}, {N: 1, S: "b"}, {N: -1, S: "b"}}
	for _, n := range []int64{math.MinInt64, -api.MaxDecimal - 1, -api.MaxDecimal, api.MinDate - 1, api.MinDate, -1, 0, 1, 2, api.MaxDate, api.MaxDate + 1, api.MaxDecimal, api.MaxDecimal + 1, math.MaxInt64} {
		values = append(values, number(n))
	}
	for _, s := range []string{"\x00", "a", "ab", "b", "B", "\x7f", "\x80", "\xff", strings.Repeat("a", 64), strings.Repeat("a", 65)} {
		values = append(values, bytesOf(s))
	}
	return values
}

// slowCheckRow returns the error of a row as promise 15.1 words it.
func slowCheckRow(s api.Schema, row []api.Value) api.Errno {
	if len(row) != len(s.Columns) {
		return api.ErrArg
	}
	for i := range row {
		if e := value.Check(s.Columns[i], row[i]); e != api.OK {
			return e
		}
	}
	return api.OK
}

// slowCheck gathers all errors in the order of promise 15.1 and takes the first one.
func slowCheck(s api.Schema, rows [][]api.Value) api.Errno {
	if e := schema.Check(s); e != api.OK {
		return e
	}
	errors := []api.Errno{}
	if len(rows) > 4096 {
		errors = append(errors, api.ErrFull)
	}
	for _, row := range rows {
		errors = append(errors, slowCheckRow(s, row))
	}
	for _, e := range errors {
		if e != api.OK {
			return e
		}
	}
	return api.OK
}

// slowCompare compares as the definition of the ranks words it.
func slowCompare(typ int, a, b api.Rank) int {
	if keys := value.Compare(typ, a.Key, b.Key); keys != 0 {
		return keys
	}
	if a.Seq == b.Seq {
		return 0
	}
	if a.Seq < b.Seq {
		return -1
	}
	return 1
}

// slowValid reports whether the schema is valid, and the records are valid for it.
func slowValid(s api.Schema, l []api.Rec) bool {
	if schema.Check(s) != api.OK {
		return false
	}
	return !slices.ContainsFunc(l, func(r api.Rec) bool {
		return r.Seq < 0 || r.Seq > 1<<40 || slowCheckRow(s, r.Row) != api.OK
	})
}

// slowOrder compares the ranks of two records that are valid for a valid schema.
func slowOrder(s api.Schema, a, b api.Rec) int {
	return slowCompare(s.Columns[s.Key].Type, rank(a.Row[s.Key], a.Seq), rank(b.Row[s.Key], b.Seq))
}

// slowSorted compares every two records of the list.
func slowSorted(s api.Schema, l []api.Rec) bool {
	if !slowValid(s, l) {
		return false
	}
	for j := range l {
		for i := range j {
			if slowOrder(s, l[i], l[j]) >= 0 {
				return false
			}
		}
	}
	return true
}

// slowSort puts each record behind those that are less than it, and those before it that are equal to it.
func slowSort(s api.Schema, l []api.Rec) []api.Rec {
	if !slowValid(s, l) {
		return nil
	}
	sorted := make([]api.Rec, len(l))
	for i, r := range l {
		place := 0
		for j, other := range l {
			if order := slowOrder(s, other, r); order < 0 || order == 0 && j < i {
				place++
			}
		}
		sorted[place] = r
	}
	return sorted
}

// slowSplit puts one record after the other into the part to which its index belongs.
func slowSplit(l []api.Rec, n int) [][]api.Rec {
	if n < 1 {
		return nil
	}
	parts := [][]api.Rec{}
	for i, r := range l {
		if i%n == 0 {
			parts = append(parts, nil)
		}
		parts[i/n] = append(parts[i/n], r)
	}
	return parts
}

// slowColumns appends one value after the other.
func slowColumns(l []api.Rec, n int) [][]api.Value {
	if n < 1 || n > 12 {
		return nil
	}
	columns := make([][]api.Value, n)
	for _, r := range l {
		for i := range n {
			v := null()
			for j := range r.Row {
				if i == j {
					v = r.Row[j]
				}
			}
			columns[i] = append(columns[i], v)
		}
	}
	return columns
}

func sameRec(a, b api.Rec) bool { return a.Seq == b.Seq && slices.Equal(a.Row, b.Row) }

func sameRecs(a, b []api.Rec) bool { return slices.EqualFunc(a, b, sameRec) }

// deepCopy returns the records with rows of their own.
func deepCopy(l []api.Rec) []api.Rec {
	c := slices.Clone(l)
	for i := range c {
		c[i].Row = slices.Clone(c[i].Row)
	}
	return c
}

func checkCheck(t *testing.T, s api.Schema, rows [][]api.Value, want api.Errno) {
	t.Helper()
	if e := Check(s, rows); e != want {
		t.Errorf("Check(%+v, %d rows) = %d, want %d", s, len(rows), e, want)
	}
}

func checkRank(t *testing.T, s api.Schema, r api.Rec, want api.Rank) {
	t.Helper()
	if got := Rank(s, r); got != want {
		t.Errorf("Rank(%+v, %+v) = %+v, want %+v", s, r, got, want)
	}
}

// checkCompare checks both orders of two ranks.
func checkCompare(t *testing.T, typ int, a, b api.Rank, want int) {
	t.Helper()
	if got := Compare(typ, a, b); got != want {
		t.Errorf("Compare(%d, %+v, %+v) = %d, want %d", typ, a, b, got, want)
	}
	if got := Compare(typ, b, a); got != -want {
		t.Errorf("Compare(%d, %+v, %+v) = %d, want %d", typ, b, a, got, -want)
	}
}

func checkSorted(t *testing.T, s api.Schema, l []api.Rec, want bool) {
	t.Helper()
	if got := Sorted(s, l); got != want {
		t.Errorf("Sorted(%+v, %+v) = %t, want %t", s, l, got, want)
	}
}

func checkSort(t *testing.T, s api.Schema, l, want []api.Rec) {
	t.Helper()
	before := deepCopy(l)
	if got := Sort(s, l); !sameRecs(got, want) {
		t.Errorf("Sort(%+v, %+v) = %+v, want %+v", s, l, got, want)
	}
	if !sameRecs(l, before) {
		t.Errorf("Sort changed its list %+v into %+v", before, l)
	}
}

// checkRefused checks that a list is neither sorted nor can be sorted.
func checkRefused(t *testing.T, s api.Schema, l []api.Rec) {
	t.Helper()
	checkSorted(t, s, l, false)
	if got := Sort(s, l); got != nil {
		t.Errorf("Sort(%+v, %+v) = %+v, want nil", s, l, got)
	}
}

func checkSplit(t *testing.T, l []api.Rec, n int, want [][]api.Rec) {
	t.Helper()
	before := deepCopy(l)
	if got := Split(l, n); !slices.EqualFunc(got, want, sameRecs) {
		t.Errorf("Split(%+v, %d) = %+v, want %+v", l, n, got, want)
	}
	if !sameRecs(l, before) {
		t.Errorf("Split changed its list %+v into %+v", before, l)
	}
}

func checkColumns(t *testing.T, l []api.Rec, n int, want [][]api.Value) {
	t.Helper()
	before := deepCopy(l)
	if got := Columns(l, n); !slices.EqualFunc(got, want, slices.Equal[[]api.Value]) {
		t.Errorf("Columns(%+v, %d) = %+v, want %+v", l, n, got, want)
	}
	if !sameRecs(l, before) {
		t.Errorf("Columns changed its list %+v into %+v", before, l)
	}
}

// Promise 15.1.
func TestCheckOfKnownRows(t *testing.T) {
	for i, rows := range [][][]api.Value{
		nil, {}, {validRow()}, {validRow(), validRow(), validRow()},
		{replaced(validRow(), 0, number(math.MinInt64)), replaced(validRow(), 5, number(math.MaxInt64))},
		{replaced(validRow(), 2, bytesOf(strings.Repeat("x", api.MaxBytes)))},
	} {
		if e := Check(allTypes(0), rows); e != api.OK {
			t.Errorf("valid rows %d have the error %d", i, e)
		}
	}
	for _, q := range []struct {
		i    int
		v    api.Value
		want api.Errno
	}{
		{0, null(), api.ErrNull},
		{0, api.Value{N: 1, S: "x"}, api.ErrType},
		{0, api.Value{Null: true, N: 1}, api.ErrType},
		{1, number(2), api.ErrRange},
		{1, number(-1), api.ErrRange},
		{2, number(1), api.ErrType},
		{2, bytesOf(strings.Repeat("x", api.MaxBytes+1)), api.ErrRange},
		{2, null(), api.ErrNull},
		{3, number(api.MinDate - 1), api.ErrRange},
		{3, number(api.MaxDate + 1), api.ErrRange},
		{4, number(api.MaxDecimal + 1), api.ErrRange},
		{4, number(-api.MaxDecimal - 1), api.ErrRange},
		{4, null(), api.ErrNull},
		{5, api.Value{Null: true, S: "x"}, api.ErrType},
		{6, number(2), api.ErrRange},
		{7, number(1), api.ErrType},
		{9, bytesOf("x"), api.ErrType},
		{9, number(math.MaxInt64), api.ErrRange},
	} {
		wrong := replaced(validRow(), q.i, q.v)
		checkCheck(t, allTypes(0), [][]api.Value{wrong}, q.want)
		checkCheck(t, allTypes(9), [][]api.Value{validRow(), validRow(), wrong}, q.want)
		checkCheck(t, allTypes(q.i), [][]api.Value{validRow(), wrong, validRow()}, q.want)
	}
}

// Promise 15.1: a row with too few or too many values.
func TestCheckNeedsOneValueForEachColumn(t *testing.T) {
	for size := range len(validRow()) {
		checkCheck(t, allTypes(0), [][]api.Value{validRow()[:size]}, api.ErrArg)
		checkCheck(t, allTypes(0), [][]api.Value{validRow(), validRow()[:size]}, api.ErrArg)
	}
	for _, v := range edgeValues() {
		checkCheck(t, allTypes(0), [][]api.Value{append(validRow(), v)}, api.ErrArg)
		checkCheck(t, keyOnly(api.Int), [][]api.Value{{number(1)}, {number(2), v}}, api.ErrArg)
	}
	checkCheck(t, keyOnly(api.Int), [][]api.Value{nil}, api.ErrArg)
	checkCheck(t, keyOnly(api.Int), [][]api.Value{{number(1)}, {}}, api.ErrArg)
}

// Promise 15.1: the first row with an error counts, and within it the number of values before the values, and these in order.
func TestCheckReturnsTheFirstError(t *testing.T) {
	s := schemaOf(0, column("a", api.Bool, false), column("b", api.Bytes, false))
	ofRange, ofNull, ofType := number(2), null(), number(1)
	good, short := []api.Value{number(1), bytesOf("x")}, []api.Value{number(2)}
	for _, q := range []struct {
		rows [][]api.Value
		want api.Errno
	}{
		{[][]api.Value{{ofRange, ofNull}}, api.ErrRange},
		{[][]api.Value{{ofNull, ofType}}, api.ErrNull},
		{[][]api.Value{{number(1), ofType}, {ofRange, ofNull}}, api.ErrType},
		{[][]api.Value{{number(1), ofNull}, short}, api.ErrNull},
		{[][]api.Value{short, {number(1), ofNull}}, api.ErrArg},
		{[][]api.Value{short}, api.ErrArg},
		{[][]api.Value{{ofRange, ofType, ofNull}}, api.ErrArg},
		{[][]api.Value{good, {ofRange, bytesOf("x")}, {ofNull, bytesOf("x")}}, api.ErrRange},
		{[][]api.Value{good, {number(1), ofType}, short, {ofRange, ofType}}, api.ErrType},
	} {
		checkCheck(t, s, q.rows, q.want)
	}
}

// Promise 15.1: more rows than a batch has are refused before any of them is looked at.
func TestCheckOfManyRows(t *testing.T) {
	rows := make([][]api.Value, api.MaxBatch+1)
	for i := range rows {
		rows[i] = []api.Value{number(int64(i))}
	}
	s := keyOnly(api.Int)
	checkCheck(t, s, rows[:api.MaxBatch-1], api.OK)
	checkCheck(t, s, rows[:api.MaxBatch], api.OK)
	checkCheck(t, s, rows, api.ErrFull)
	checkCheck(t, s, make([][]api.Value, 3*api.MaxBatch), api.ErrFull)
	checkCheck(t, s, make([][]api.Value, api.MaxBatch), api.ErrArg)
	rows[0] = []api.Value{bytesOf("x")}
	checkCheck(t, s, rows, api.ErrFull)
	checkCheck(t, s, rows[1:], api.OK)
	rows[api.MaxBatch] = []api.Value{bytesOf("x")}
	checkCheck(t, s, rows[1:], api.ErrType)
}

// Promise 15.1: the error of the schema comes before those of the rows.
func TestCheckOfInvalidSchemas(t *testing.T) {
	for want, schemas := range invalidSchemas() {
		for _, s := range schemas {
			for _, rows := range [][][]api.Value{
				nil, {{number(1)}}, {nil}, {{bytesOf("x"), null()}}, make([][]api.Value, api.MaxBatch+1), {make([]api.Value, len(s.Columns))},
			} {
				checkCheck(t, s, rows, want)
			}
		}
	}
}

// Promise 15.1: all values in all columns.
func TestCheckFollowsThePromise(t *testing.T) {
	results := map[api.Errno]int{}
	for i := range validRow() {
		for j := range validRow() {
			for _, v := range edgeValues() {
				for _, w := range edgeValues() {
					rows := [][]api.Value{replaced(validRow(), i, v), replaced(validRow(), j, w)}
					want := slowCheck(allTypes(i), rows)
					checkCheck(t, allTypes(i), rows, want)
					results[want]++
				}
			}
		}
	}
	for _, e := range []api.Errno{api.OK, api.ErrType, api.ErrNull, api.ErrRange} {
		if results[e] < 100 {
			t.Errorf("only %d batches lead to error %d", results[e], e)
		}
	}
}

// Promise 15.2.
func TestRankOfKnownRecords(t *testing.T) {
	row := []api.Value{number(5), bytesOf("a"), null()}
	for _, seq := range append([]int64{0, 1, 77, api.MaxSeq}, seqsOutOfRange...) {
		for key, v := range row {
			checkRank(t, api.Schema{Key: key}, rec(seq, row...), rank(v, seq))
			checkRank(t, schemaOf(key, column("a", api.Bool, false)), rec(seq, row...), rank(v, seq))
		}
		for _, key := range []int{-1, -2, -3, math.MinInt, 3, 4, 256, 1 << 32, math.MaxInt} {
			checkRank(t, api.Schema{Key: key}, rec(seq, row...), api.Rank{})
			checkRank(t, schemaOf(key, make([]api.Column, 12)...), rec(seq, row...), api.Rank{})
		}
		for _, key := range []int{0, 1, -1} {
			checkRank(t, schemaOf(key, column("a", api.Int, true)), rec(seq), api.Rank{})
			checkRank(t, api.Schema{Key: key}, api.Rec{Seq: seq, Row: []api.Value{}}, api.Rank{})
		}
	}
}

// Promise 15.2: the key is that of the row, even if it is not valid.
func TestRankOfAnyValue(t *testing.T) {
	for _, v := range edgeValues() {
		checkRank(t, schemaOf(1, column("a", api.Int, false), column("b", api.Bool, false)), rec(3, null(), v), rank(v, 3))
		checkRank(t, api.Schema{}, rec(-3, v, number(4)), rank(v, -3))
	}
}

// Promise 15.2: keys come first, then sequence numbers.
func TestCompareOfKnownRanks(t *testing.T) {
	for _, q := range []struct {
		typ  int
		a, b api.Rank
		want int
	}{
		{api.Int, rank(number(1), 9), rank(number(2), 3), -1},
		{api.Int, rank(number(-1), 9), rank(number(1), 3), -1},
		{api.Int, rank(number(2), 3), rank(number(2), 4), -1},
		{api.Int, rank(number(2), 4), rank(number(2), 4), 0},
		{api.Int, rank(number(math.MinInt64), 0), rank(number(math.MaxInt64), 0), -1},
		{api.Int, rank(number(0), math.MinInt64), rank(number(0), math.MaxInt64), -1},
		{api.Int, rank(number(0), math.MinInt64), rank(number(0), 1), -1},
		{api.Int, rank(number(0), 1<<32), rank(number(0), 0), 1},
		{api.Int, rank(null(), 9), rank(number(math.MinInt64), 3), -1},
		{api.Int, rank(null(), 9), rank(null(), 3), 1},
		{api.Int, rank(null(), 3), rank(api.Value{Null: true, N: 4, S: "x"}, 3), 0},
		{api.Int, rank(api.Value{N: 1, S: "b"}, 3), rank(api.Value{N: 1, S: "a"}, 3), 0},
		{api.Bool, rank(number(0), 9), rank(number(1), 3), -1},
		{api.Bytes, rank(bytesOf("a"), 9), rank(bytesOf("ab"), 3), -1},
		{api.Bytes, rank(bytesOf("\x7f"), 9), rank(bytesOf("\x80"), 3), -1},
		{api.Bytes, rank(bytesOf("b"), 3), rank(bytesOf("b"), 9), -1},
		{api.Bytes, rank(api.Value{N: 2, S: "a"}, 3), rank(api.Value{N: 1, S: "b"}, 1), -1},
		{api.Bytes, rank(null(), 9), rank(bytesOf(""), 3), -1},
		{api.Date, rank(number(api.MinDate), 1), rank(number(0), 0), -1},
		{api.Decimal, rank(number(99), 1), rank(number(100), 0), -1},
		{0, rank(api.Value{N: 2, S: "a"}, 1), rank(api.Value{N: 1, S: "b"}, 3), 1},
		{math.MaxInt, rank(api.Value{N: 1, S: "b"}, 1), rank(api.Value{N: 1, S: "a"}, 3), -1},
	} {
		checkCompare(t, q.typ, q.a, q.b, q.want)
	}
}

// Promise 15.2: all pairs of these ranks.
func TestCompareFollowsThePromise(t *testing.T) {
	ranks := []api.Rank{{}}
	for _, v := range edgeValues() {
		for _, seq := range []int64{0, 1, api.MaxSeq, -1, math.MinInt64, math.MaxInt64} {
			ranks = append(ranks, rank(v, seq))
		}
	}
	for _, typ := range slices.Concat(types, notTypes) {
		for _, a := range ranks {
			for _, b := range ranks {
				checkCompare(t, typ, a, b, slowCompare(typ, a, b))
			}
		}
	}
}

// Promise 15.3.
func TestSortedOfKnownLists(t *testing.T) {
	s := keyOnly(api.Int)
	for _, q := range []struct {
		l    []api.Rec
		want bool
	}{
		{nil, true},
		{[]api.Rec{}, true},
		{[]api.Rec{rec(7, number(3))}, true},
		{[]api.Rec{rec(7, number(3)), rec(0, number(4)), rec(3, number(8))}, true},
		{[]api.Rec{rec(9, null()), rec(7, number(math.MinInt64)), rec(8, number(math.MinInt64))}, true},
		{[]api.Rec{rec(0, null()), rec(api.MaxSeq, null())}, true},
		{[]api.Rec{rec(7, number(3)), rec(7, number(4))}, true},
		{[]api.Rec{rec(7, number(3)), rec(7, number(3))}, false},
		{[]api.Rec{rec(7, number(3)), rec(6, number(3))}, false},
		{[]api.Rec{rec(7, number(3)), rec(8, number(2))}, false},
		{[]api.Rec{rec(7, number(3)), rec(8, null())}, false},
		{[]api.Rec{rec(7, null()), rec(7, null())}, false},
		{[]api.Rec{rec(2, number(3)), rec(1, number(3)), rec(0, number(4))}, false},
		{[]api.Rec{rec(0, number(3)), rec(1, number(4)), rec(1, number(4))}, false},
		{[]api.Rec{rec(0, number(1)), rec(0, number(3)), rec(0, number(2)), rec(0, number(4))}, false},
	} {
		checkSorted(t, s, q.l, q.want)
	}
	strs := []api.Rec{rec(5, null()), rec(4, bytesOf("")), rec(3, bytesOf("a")), rec(2, bytesOf("aa")), rec(1, bytesOf("\x80"))}
	checkSorted(t, keyOnly(api.Bytes), strs, true)
	slices.Reverse(strs)
	checkSorted(t, keyOnly(api.Bytes), strs, false)
}

// Promise 15.3: ranks are those of the column Key, and of no other one.
func TestOrderIsThatOfTheKey(t *testing.T) {
	l := []api.Rec{rec(0, number(3), number(1)), rec(1, number(2), number(2)), rec(2, number(1), number(3))}
	first, second := schemaOf(0, column("a", api.Int, false), column("b", api.Int, false)), schemaOf(1, column("a", api.Int, false), column("b", api.Int, false))
	checkSorted(t, first, l, false)
	checkSorted(t, second, l, true)
	checkSort(t, first, l, []api.Rec{l[2], l[1], l[0]})
	checkSort(t, second, l, l)

	bytesKey := schemaOf(1, column("a", api.Int, false), column("b", api.Bytes, false))
	strs := []api.Rec{rec(2, number(1), bytesOf("b")), rec(1, number(1), bytesOf("a")), rec(0, number(1), bytesOf("c"))}
	checkSorted(t, bytesKey, strs, false)
	checkSort(t, bytesKey, strs, []api.Rec{strs[1], strs[0], strs[2]})
}

// Promise 15.3: sequence numbers from 0 to MaxSeq, wherever they stand.
func TestOrderOfSequenceNumbersOutOfRange(t *testing.T) {
	s := keyOnly(api.Int)
	l := []api.Rec{rec(0, number(1)), rec(api.MaxSeq, number(2)), rec(api.MaxSeq-1, number(3))}
	checkSorted(t, s, l, true)
	checkSort(t, s, l, l)
	for _, seq := range seqsOutOfRange {
		for i := range l {
			wrong := deepCopy(l)
			wrong[i].Seq = seq
			checkRefused(t, s, wrong)
		}
		checkRefused(t, s, []api.Rec{rec(seq, number(1))})
	}
}

// Promise 15.3: rows that are not valid, wherever they stand.
func TestOrderOfInvalidRows(t *testing.T) {
	s := allTypes(0)
	l := []api.Rec{}
	for i := range 4 {
		l = append(l, rec(int64(i), replaced(validRow(), 0, number(int64(i)))...))
	}
	checkSorted(t, s, l, true)
	checkSort(t, s, l, l)
	wrongRows := [][]api.Value{nil, {}, validRow()[:1], validRow()[:9], append(validRow(), null()), append(validRow(), number(1))}
	for i := range validRow() {
		for _, v := range edgeValues() {
			if value.Check(s.Columns[i], v) != api.OK {
				wrongRows = append(wrongRows, replaced(validRow(), i, v))
			}
		}
	}
	for _, row := range wrongRows {
		for i := range l {
			wrong := deepCopy(l)
			wrong[i].Row = row
			checkRefused(t, s, wrong)
		}
		checkRefused(t, s, []api.Rec{rec(1, row...)})
	}
}

// Promise 15.3: a schema that is not valid, also for an empty list.
func TestOrderOfInvalidSchemas(t *testing.T) {
	for _, schemas := range invalidSchemas() {
		for _, s := range schemas {
			for _, l := range [][]api.Rec{nil, {}, {rec(1)}, {rec(1, number(1))}, {rec(1, number(1)), rec(0, number(0))}, {rec(1, make([]api.Value, len(s.Columns))...)}} {
				checkRefused(t, s, l)
			}
		}
	}
}

// Promise 15.3.
func TestSortOfKnownLists(t *testing.T) {
	s := keyAndMark()
	for _, q := range []struct{ l, want []api.Rec }{
		{nil, nil},
		{[]api.Rec{marked(1, 5, number(3))}, []api.Rec{marked(1, 5, number(3))}},
		{[]api.Rec{marked(1, 5, number(3)), marked(2, 6, number(2))}, []api.Rec{marked(2, 6, number(2)), marked(1, 5, number(3))}},
		{[]api.Rec{marked(1, 6, number(3)), marked(2, 5, number(3))}, []api.Rec{marked(2, 5, number(3)), marked(1, 6, number(3))}},
		{[]api.Rec{marked(1, 5, number(3)), marked(2, 9, null())}, []api.Rec{marked(2, 9, null()), marked(1, 5, number(3))}},
		{ // equal ranks stay in their order
			[]api.Rec{marked(3, 5, number(3)), marked(1, 5, number(3)), marked(2, 4, number(3)), marked(0, 5, number(3))},
			[]api.Rec{marked(2, 4, number(3)), marked(3, 5, number(3)), marked(1, 5, number(3)), marked(0, 5, number(3))},
		},
		{
			[]api.Rec{marked(1, 5, null()), marked(0, 5, null()), marked(0, 4, number(-1)), marked(3, 5, null())},
			[]api.Rec{marked(1, 5, null()), marked(0, 5, null()), marked(3, 5, null()), marked(0, 4, number(-1))},
		},
	} {
		checkSort(t, s, q.l, q.want)
	}
}

// Promise 15.3: all short lists of these records, the marks of which are their places.
func TestOrderOfAllShortLists(t *testing.T) {
	s := keyAndMark()
	keys := []api.Value{null(), number(-1), number(4)}
	ranks := []api.Rank{rank(number(4), api.MaxSeq+1)}
	for _, key := range keys {
		ranks = append(ranks, rank(key, 0), rank(key, 7))
	}
	sorted := 0
	var extend func(l []api.Rec)
	extend = func(l []api.Rec) {
		want := slowSorted(s, l)
		checkSorted(t, s, l, want)
		checkSort(t, s, l, slowSort(s, l))
		if want {
			sorted++
		}
		if len(l) == 5 || t.Failed() {
			return
		}
		for _, r := range ranks {
			extend(append(slices.Clone(l), marked(len(l), r.Seq, r.Key)))
		}
	}
	extend(nil)
	if want := 1 + 6 + 15 + 20 + 15 + 6; sorted != want { // the sets of up to five of six ranks
		t.Errorf("%d lists are sorted, want %d", sorted, want)
	}
}

// randomRecords returns records that are valid for allTypes, with few different keys.
func randomRecords(r *rand.Rand, size int) []api.Rec {
	l := make([]api.Rec, size)
	for i := range l {
		row := []api.Value{number(int64(r.Intn(5)) - 2), number(int64(r.Intn(2))), bytesOf(strings.Repeat("a", r.Intn(3))), number(int64(r.Intn(4))), number(int64(r.Intn(4)) - 2)}
		for _, v := range slices.Clone(row) {
			if r.Intn(3) == 0 {
				v = null()
			}
			row = append(row, v)
		}
		l[i] = rec(int64(r.Intn(4)), row...)
	}
	return l
}

// Promise 15.3: lists of many sizes, by keys of all types, some of which may be null.
func TestOrderOfRandomLists(t *testing.T) {
	r := rand.New(rand.NewSource(153))
	for key := range validRow() {
		s := allTypes(key)
		for size := range 70 {
			l := randomRecords(r, size)
			sorted := slowSort(s, l)
			checkSort(t, s, l, sorted)
			checkSorted(t, s, l, slowSorted(s, l))
			checkSorted(t, s, sorted, slowSorted(s, sorted))
			different := slices.CompactFunc(deepCopy(sorted), func(a, b api.Rec) bool { return slowOrder(s, a, b) == 0 })
			checkSorted(t, s, different, true)
			checkSort(t, s, different, different)
		}
	}
}

// Promise 15.3: the length of a list is not restricted.
func TestOrderOfLongLists(t *testing.T) {
	r := rand.New(rand.NewSource(1530))
	s := keyAndMark()
	for _, size := range []int{api.MaxRows, api.MaxRows + 1, api.MaxBatch, api.MaxBatch + 1, 100000} {
		l := make([]api.Rec, size)
		for i := range l {
			l[i] = marked(i, int64(r.Intn(3)), number(int64(r.Intn(size))))
		}
		want := slices.Clone(l)
		sort.SliceStable(want, func(i, j int) bool { return slowOrder(s, want[i], want[j]) < 0 })
		if !sameRecs(Sort(s, l), want) {
			t.Errorf("Sort of %d records is wrong", size)
		}
		for i := range l {
			l[i] = marked(0, int64(i), number(int64(i/3)))
		}
		if !Sorted(s, l) || !sameRecs(Sort(s, l), l) {
			t.Errorf("%d sorted records are not taken for sorted", size)
		}
		l[size-1].Seq = l[size-2].Seq
		l[size-1].Row[1] = l[size-2].Row[1]
		if Sorted(s, l) {
			t.Errorf("%d records, the last two of which have equal ranks, are taken for sorted", size)
		}
		slices.Reverse(l)
		if got := Sort(s, l); len(got) != size || got[0].Seq != 0 || got[size-1].Seq != int64(size-2) {
			t.Errorf("Sort of %d records in descending order is wrong", size)
		}
		l[size/2].Row = nil
		if Sort(s, l) != nil {
			t.Errorf("Sort of %d records, one of which is not valid, is not nil", size)
		}
	}
}

// numbered returns records whose sequence numbers are their places, and which need not be valid.
func numbered(size int) []api.Rec {
	l := make([]api.Rec, size)
	for i := range l {
		l[i] = rec(int64(i), edgeValues()[i%5:i%9+5]...)
	}
	return l
}

// Promise 15.4, and the example of the chapter.
func TestSplitOfKnownLists(t *testing.T) {
	l := numbered(5)
	checkSplit(t, l, 2, [][]api.Rec{{l[0], l[1]}, {l[2], l[3]}, {l[4]}}) // the example
	checkSplit(t, l, 1, [][]api.Rec{{l[0]}, {l[1]}, {l[2]}, {l[3]}, {l[4]}})
	checkSplit(t, l, 3, [][]api.Rec{{l[0], l[1], l[2]}, {l[3], l[4]}})
	checkSplit(t, l, 4, [][]api.Rec{{l[0], l[1], l[2], l[3]}, {l[4]}})
	checkSplit(t, l[:4], 2, [][]api.Rec{{l[0], l[1]}, {l[2], l[3]}})
	for _, n := range []int{5, 6, 7, 1 << 32, 1<<32 + 1, math.MaxInt - 1, math.MaxInt} {
		checkSplit(t, l, n, [][]api.Rec{l})
	}
	for _, n := range []int{0, -1, -2, -5, math.MinInt, math.MinInt + 1} {
		if got := Split(l, n); got != nil {
			t.Errorf("Split(.., %d) = %+v, want nil", n, got)
		}
	}
}

// Promise 15.4: an empty list has no parts; records need not be valid.
func TestSplitOfEmptyListsAndRows(t *testing.T) {
	for _, n := range []int{1, 2, math.MaxInt, 0, -1} {
		checkSplit(t, nil, n, nil)
		checkSplit(t, []api.Rec{}, n, nil)
	}
	l := []api.Rec{{}, {Seq: -1}, {Seq: math.MaxInt64, Row: []api.Value{}}, rec(2, null())}
	checkSplit(t, l, 3, [][]api.Rec{l[:3], l[3:]})
}

// Promise 15.4: all sizes of lists and parts up to these.
func TestSplitFollowsThePromise(t *testing.T) {
	for size := range 40 {
		for n := -3; n <= 45; n++ {
			checkSplit(t, numbered(size), n, slowSplit(numbered(size), n))
		}
	}
	for _, size := range []int{api.MaxBatch, api.MaxBatch + 1, 20000} {
		l := numbered(size)
		for _, n := range []int{1, 2, api.MaxRows - 1, api.MaxRows, api.MaxBatch, size - 1, size, size + 1} {
			if !slices.EqualFunc(Split(l, n), slowSplit(l, n), sameRecs) {
				t.Errorf("Split of %d records into parts of %d is wrong", size, n)
			}
		}
	}
}

// Promise 15.4.
func TestColumnsOfKnownLists(t *testing.T) {
	l := []api.Rec{rec(0, number(3), bytesOf("a")), rec(1, null(), bytesOf("b")), rec(2, number(4), null())}
	first, second, missing := []api.Value{number(3), null(), number(4)}, []api.Value{bytesOf("a"), bytesOf("b"), null()}, []api.Value{null(), null(), null()}
	checkColumns(t, l, 1, [][]api.Value{first})
	checkColumns(t, l, 2, [][]api.Value{first, second})
	checkColumns(t, l, 4, [][]api.Value{first, second, missing, missing})
	checkColumns(t, l, 12, append([][]api.Value{first, second}, slices.Repeat([][]api.Value{missing}, 10)...))
	for _, n := range []int{0, -1, -12, math.MinInt, 13, 14, 1<<32 + 2, math.MaxInt} {
		for _, list := range [][]api.Rec{l, nil, {rec(0, make([]api.Value, 20)...)}} {
			if got := Columns(list, n); got != nil {
				t.Errorf("Columns(%+v, %d) = %+v, want nil", list, n, got)
			}
		}
	}
}

// Promise 15.4: rows of different lengths, with values that need not be valid.
func TestColumnsOfRowsWithoutAColumn(t *testing.T) {
	a, b := api.Value{Null: true, N: 7, S: "x"}, api.Value{N: 1, S: "x"}
	l := []api.Rec{{}, rec(0, a), rec(1, a, b), rec(2, []api.Value{}...), rec(3, b, a, b)}
	checkColumns(t, l, 3, [][]api.Value{{null(), a, a, null(), b}, {null(), null(), b, null(), a}, {null(), null(), null(), null(), b}})
	checkColumns(t, nil, 2, [][]api.Value{{}, {}})
	checkColumns(t, []api.Rec{}, 12, make([][]api.Value, 12))
	checkColumns(t, []api.Rec{{}}, 1, [][]api.Value{{null()}})
}

// Promise 15.4: lists and rows of many sizes.
func TestColumnsFollowThePromise(t *testing.T) {
	r := rand.New(rand.NewSource(154))
	values := edgeValues()
	for _, size := range []int{0, 1, 2, 3, 5, 17, 100, api.MaxBatch + 1} {
		l := make([]api.Rec, size)
		for i := range l {
			l[i].Row = make([]api.Value, r.Intn(16))
			for j := range l[i].Row {
				l[i].Row[j] = values[r.Intn(len(values))]
			}
		}
		for n := -2; n <= 15; n++ {
			if !slices.EqualFunc(Columns(l, n), slowColumns(l, n), slices.Equal[[]api.Value]) {
				t.Errorf("Columns of %d records and %d columns is wrong", size, n)
			}
		}
	}
}

// overwrite changes all of a list of records, and what lies behind it.
func overwrite(l []api.Rec) {
	for i := range l {
		overwriteValues(l[i].Row)
		l[i] = rec(-9)
	}
	for i := range l[len(l):cap(l)] {
		l[len(l):cap(l)][i] = rec(-8)
	}
}

// overwriteValues changes all of a list of values, and what lies behind it.
func overwriteValues(l []api.Value) {
	for i := range l[:cap(l)] {
		l[:cap(l)][i] = api.Value{N: -7, S: "overwritten"}
	}
}

// Rule R2: results are new memory, and no part of a result changes with another one; here the records even have the same row.
func TestResultsAreNewMemory(t *testing.T) {
	row := []api.Value{number(0), number(5)}
	l := []api.Rec{rec(3, row...), rec(3, row...), rec(3, row...), rec(3, row...), rec(3, row...)}
	before := deepCopy(l)
	for _, size := range []int{1, 2, 3, 5} {
		sorted := Sort(keyAndMark(), l[:size])
		for i := range sorted {
			if !sameRecs(sorted[i:], before[i:size]) {
				t.Errorf("record %d of Sort shares memory with one before it", i)
			}
			overwrite(sorted[i : i+1 : i+1])
		}
		overwrite(sorted)
		for n := range size {
			parts := Split(l[:size], n+1)
			for i := range parts {
				if !slices.EqualFunc(parts[i:], slowSplit(before[:size], n+1)[i:], sameRecs) {
					t.Errorf("part %d of Split shares memory with one before it", i)
				}
				overwrite(parts[i])
			}
		}
		for _, n := range []int{1, 2, 12} {
			columns := Columns(l[:size], n)
			for i := range columns {
				if !slices.EqualFunc(columns[i:], slowColumns(before[:size], n)[i:], slices.Equal[[]api.Value]) {
					t.Errorf("column %d shares memory with one before it", i)
				}
				overwriteValues(columns[i])
			}
		}
		if !sameRecs(l, before) {
			t.Fatalf("a change of a result changed the records into %+v", l)
		}
	}
}

// Rules R2 and R5: no function changes an argument, and equal calls have equal results.
func TestArgumentsStayTheSame(t *testing.T) {
	r := rand.New(rand.NewSource(15))
	for range 300 {
		s, l := allTypes(r.Intn(12)-1), randomRecords(r, r.Intn(20))
		if len(l) > 0 && r.Intn(2) == 0 {
			l[r.Intn(len(l))].Row[r.Intn(5)] = edgeValues()[r.Intn(len(edgeValues()))]
		}
		rows := make([][]api.Value, len(l))
		for i := range l {
			rows[i] = l[i].Row
		}
		beforeSchema, before := api.Schema{Columns: slices.Clone(s.Columns), Key: s.Key}, deepCopy(l)
		var results [2][]any
		for i := range results {
			results[i] = []any{Check(s, rows), Sorted(s, l), Sort(s, l), Split(l, 3), Columns(l, 11)}
			for _, record := range l {
				results[i] = append(results[i], Rank(s, record))
			}
		}
		if !reflect.DeepEqual(s, beforeSchema) || !sameRecs(l, before) {
			t.Fatalf("the arguments %+v, %+v were changed into %+v, %+v", beforeSchema, before, s, l)
		}
		if !reflect.DeepEqual(results[0], results[1]) {
			t.Fatalf("equal calls returned %+v and %+v", results[0], results[1])
		}
	}
}
