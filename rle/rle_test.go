package rle

import (
	"math"
	"math/big"
	"math/rand"
	"slices"
	"strings"
	"testing"

	"micropart/api"
	"micropart/varint"
)

// slowNumber writes a number that is not negative in groups of seven bits, with integers that cannot overflow.
func slowNumber(v *big.Int) string {
	rest, group := new(big.Int).DivMod(v, big.NewInt(128), new(big.Int))
	if rest.Sign() == 0 {
		return string([]byte{byte(group.Int64())})
	}
	return string([]byte{byte(group.Int64() + 128)}) + slowNumber(rest)
}

// slowValue writes the value of a run.
func slowValue(n int64) string {
	v := new(big.Int).Mul(big.NewInt(n), big.NewInt(2))
	if n < 0 {
		v.Neg(v).Sub(v, big.NewInt(1))
	}
	return slowNumber(v)
}

// slowRuns divides l into runs, from its end on.
func slowRuns(l []int64) [][]int64 {
	if len(l) == 0 {
		return nil
	}
	first := len(l) - 1
	for first > 0 && l[first-1] == l[first] {
		first--
	}
	return append(slowRuns(l[:first]), l[first:])
}

func slowEncode(l []int64) string {
	var encoding strings.Builder
	for _, run := range slowRuns(l) {
		encoding.WriteString(slowNumber(big.NewInt(int64(len(run)))))
		encoding.WriteString(slowValue(run[0]))
	}
	return encoding.String()
}

// slowDecode reads one run of s, and leaves the others to another call.
func slowDecode(s string, missing int, before *big.Int) ([]int64, api.Errno) {
	if missing == 0 && s == "" {
		return nil, api.OK
	}
	if missing == 0 {
		return nil, api.ErrForm
	}
	v, size, e := varint.Get(s, 0)
	if e != api.OK {
		return nil, e
	}
	length := new(big.Int).SetUint64(v)
	if length.Sign() == 0 || length.Cmp(big.NewInt(int64(missing))) > 0 {
		return nil, api.ErrForm
	}
	s = s[size:]
	v, size, e = varint.Get(s, 0)
	if e != api.OK {
		return nil, e
	}
	value := varint.Zag(v)
	if before != nil && before.Cmp(big.NewInt(value)) == 0 {
		return nil, api.ErrForm
	}
	rest, e := slowDecode(s[size:], missing-int(length.Int64()), big.NewInt(value))
	if e != api.OK {
		return nil, e
	}
	return append(slices.Repeat([]int64{value}, int(length.Int64())), rest...), api.OK
}

// sampleValues returns numbers around every power of two, and around their negative ones.
func sampleValues() []int64 {
	values := []int64{0, math.MinInt64, math.MinInt64 + 1, math.MaxInt64}
	for shift := range 63 {
		power := int64(1) << shift
		values = append(values, power-1, power, -power, -power-1)
	}
	return values
}

// randomList returns n numbers with runs of at most longest elements, or of more if neighbours happen to be equal.
func randomList(r *rand.Rand, n, longest int) []int64 {
	values := sampleValues()
	l := []int64{}
	for len(l) < n {
		length := min(1+r.Intn(longest), n-len(l))
		l = append(l, slices.Repeat([]int64{values[r.Intn(len(values))]}, length)...)
	}
	return l
}

// alternating returns n numbers without equal neighbours.
func alternating(n int) []int64 {
	l := make([]int64, n)
	for i := range l {
		l[i] = int64(i % 2)
	}
	return l
}

// smallLists calls f with all lists of at most longest elements that are among values.
func smallLists(longest int, values []int64, f func(l []int64)) {
	var extend func(l []int64)
	extend = func(l []int64) {
		f(l)
		if len(l) == longest {
			return
		}
		for _, v := range values {
			extend(append(slices.Clone(l), v))
		}
	}
	extend(nil)
}

// checkEncode compares Runs and Encode with what is wanted for a list.
func checkEncode(t *testing.T, l []int64, runs int, s string) {
	t.Helper()
	before := slices.Clone(l)
	if got := Runs(l); got != runs {
		t.Errorf("Runs of %d elements = %d, want %d", len(l), got, runs)
	}
	if got := Encode(l); got != s {
		t.Errorf("Encode of %d elements is %x, want %x", len(l), got, s)
	}
	if !slices.Equal(l, before) {
		t.Errorf("the %d elements were changed", len(l))
	}
}

func checkDecode(t *testing.T, s string, want []int64) {
	t.Helper()
	if l, e := Decode(s, len(want)); e != api.OK || !slices.Equal(l, want) {
		t.Errorf("Decode(%x, %d) = %v, %d, want %v", s, len(want), l, e, want)
	}
}

type errorCase struct {
	name string
	s    string
	n    int
}

func checkErrors(t *testing.T, want api.Errno, cases []errorCase) {
	t.Helper()
	for _, c := range cases {
		if l, e := Decode(c.s, c.n); len(l) != 0 || e != want {
			t.Errorf("%s: Decode(%x, %d) = %d elements, %d, want %d", c.name, c.s, c.n, len(l), e, want)
		}
	}
}

// Promises 9.1 and 9.2, and the example of the chapter.
func TestKnownLists(t *testing.T) {
	for _, c := range []struct {
		l    []int64
		runs int
		s    string
	}{
		{[]int64{7, 7, 7, -1}, 2, "\x03\x0e\x01\x01"}, // the example
		{nil, 0, ""},
		{[]int64{}, 0, ""},
		{[]int64{0}, 1, "\x01\x00"},
		{[]int64{0, 0}, 1, "\x02\x00"},
		{[]int64{5, 5, 5}, 1, "\x03\x0a"},
		{[]int64{1, 2}, 2, "\x01\x02\x01\x04"},
		{[]int64{1, -1}, 2, "\x01\x02\x01\x01"},
		{[]int64{0, -1, 0}, 3, "\x01\x00\x01\x01\x01\x00"}, // equal, but no neighbours
		{[]int64{3, 3, 4, 3, 3}, 3, "\x02\x06\x01\x08\x02\x06"},
		{[]int64{9, 8, 8}, 2, "\x01\x12\x02\x10"},
		{[]int64{63, 64, -64, -65}, 4, "\x01\x7e\x01\x80\x01\x01\x7f\x01\x81\x01"},
		{[]int64{math.MaxInt64, math.MinInt64}, 2, "\x01\xfe" + strings.Repeat("\xff", 8) + "\x01\x01" + strings.Repeat("\xff", 9) + "\x01"},
		{[]int64{1, 1 + 1<<32, 1 + 1<<62}, 3, "\x01\x02\x01\x82\x80\x80\x80\x20\x01\x82" + strings.Repeat("\x80", 7) + "\x80\x01"},
		{slices.Repeat([]int64{2}, 127), 1, "\x7f\x04"},
		{slices.Repeat([]int64{2}, 128), 1, "\x80\x01\x04"},
		{slices.Repeat([]int64{2}, 300), 1, "\xac\x02\x04"},
		{slices.Repeat([]int64{-2}, api.MaxBatch), 1, "\x80\x20\x03"},
		{append(slices.Repeat([]int64{1}, api.MaxBatch-1), 2), 2, "\xff\x1f\x02\x01\x04"},
		{alternating(api.MaxBatch), api.MaxBatch, strings.Repeat("\x01\x00\x01\x02", api.MaxBatch/2)},
	} {
		checkEncode(t, c.l, c.runs, c.s)
		checkDecode(t, c.s, c.l)
	}
}

// Promises 9.1 and 9.2: all ways in which a few elements can be equal.
func TestAllShortLists(t *testing.T) {
	lists := map[string][]int64{}
	smallLists(7, []int64{0, -1, 1, 300}, func(l []int64) {
		s := slowEncode(l)
		checkEncode(t, l, len(slowRuns(l)), s)
		checkDecode(t, s, l)
		if other, ok := lists[s]; ok {
			t.Errorf("%v and %v have the encoding %x", other, l, s)
		}
		lists[s] = l
	})
}

// Promises 9.1 and 9.2: all lengths of a list that Decode permits.
func TestListsOfAllLengths(t *testing.T) {
	r := rand.New(rand.NewSource(91))
	for n := range api.MaxBatch + 1 {
		for _, l := range [][]int64{slices.Repeat([]int64{int64(n)}, n), randomList(r, n, 1+r.Intn(300))} {
			s := slowEncode(l)
			checkEncode(t, l, len(slowRuns(l)), s)
			checkDecode(t, s, l)
		}
	}
}

// Promises 9.1 and 9.2: values of all sizes, alone and beside one that is almost the same.
func TestValuesOfAllSizes(t *testing.T) {
	for _, v := range sampleValues() {
		for bit := range 64 {
			other := v ^ int64(uint64(1)<<bit)
			for _, l := range [][]int64{{v}, {v, v, other}, {v, other, v}} {
				s := slowEncode(l)
				checkEncode(t, l, len(slowRuns(l)), s)
				checkDecode(t, s, l)
			}
		}
	}
}

// Promise 9.1: the number of elements that Runs and Encode take is not restricted.
func TestListsOfMoreElementsThanABatch(t *testing.T) {
	r := rand.New(rand.NewSource(911))
	for _, n := range []int{api.MaxBatch + 1, 1 << 16, 1<<16 + 1, 1 << 20} {
		same := slices.Repeat([]int64{6}, n)
		checkEncode(t, same, 1, slowNumber(big.NewInt(int64(n)))+"\x0c")
		checkEncode(t, alternating(n), n, strings.Repeat("\x01\x00\x01\x02", n/2)+strings.Repeat("\x01\x00", n%2))
		l := randomList(r, n, 5000)
		checkEncode(t, l, len(slowRuns(l)), slowEncode(l))
	}
}

// Promise 9.2: the errors and their order.
func TestDecodeRefusesNumbersOutOfRange(t *testing.T) {
	for _, n := range []int{-1, -2, -api.MaxBatch, math.MinInt, api.MaxBatch + 1, 1 << 32, math.MaxInt} {
		checkErrors(t, api.ErrRange, []errorCase{
			{"nothing", "", n},
			{"a run", "\x03\x0e", n},
			{"a run of length 0", "\x00\x0e", n},
			{"an encoding of that many elements", varint.Put(uint64(n)) + "\x0e", n},
			{"an encoding that ends too early", "\x80", n},
			{"numbers that are too great", strings.Repeat("\xff", 30), n},
		})
	}
}

// Promise 9.2.
func TestDecodeRefusesAnEncodingThatEndsTooEarly(t *testing.T) {
	checkErrors(t, api.ErrShort, []errorCase{
		{"nothing", "", 1},
		{"nothing for a batch", "", api.MaxBatch},
		{"no value", "\x03", 3},
		{"no value, with elements missing anyhow", "\x03", 4},
		{"the last element is missing", "\x03\x0e", 4},
		{"the last element is missing after two runs", "\x02\x0e\x01\x01", 4},
		{"within the length", "\x83", 3},
		{"within the value", "\x03\x8e", 3},
		{"no second value", "\x02\x0e\x01", 3},
		{"within the second length", "\x02\x0e\x81", 3},
		{"within the second value, which begins as the first", "\x02\x8e\x01\x01\x8e", 3},
		{"nine bytes of a length", strings.Repeat("\xff", 9), 3},
		{"nine bytes of a value", "\x03" + strings.Repeat("\xff", 9), 3},
	})
}

// Promise 9.2: also lengths that no int can hold.
func TestDecodeRefusesALengthThatDoesNotFit(t *testing.T) {
	for _, length := range []uint64{0, 4, 5, 128, 1 << 16, 1<<16 + 3, 1 << 31, 1<<32 + 3, math.MaxInt64, 1 << 63, 1<<63 + 3, math.MaxUint64 - 2, math.MaxUint64} {
		l := varint.Put(length)
		checkErrors(t, api.ErrForm, []errorCase{
			{"first run", l + "\x0e", 3},
			{"second run", "\x01\x02" + l + "\x0e", 4},
			{"before the value is found to be missing", l, 3},
			{"before the value is found to be cut off", l + "\x8e", 3},
			{"before the value is found to be too great", l + strings.Repeat("\xff", 10), 3},
			{"before the next run", l + "\x0e\x80", 3},
		})
	}
	checkErrors(t, api.ErrForm, []errorCase{
		{"one more than are missing after a run", "\x02\x0e\x02\x01", 3},
		{"one more than a batch", "\x81\x20\x0e", api.MaxBatch},
		{"the number of all elements, again", "\x02\x0e\x03\x01", 3},
	})
}

// Promise 9.2: the errors of varint.Get, other than ErrShort.
func TestDecodeRefusesNumbersWithoutTheFormOfPut(t *testing.T) {
	tooGreat := strings.Repeat("\xff", 9) + "\x02"
	endless := strings.Repeat("\xff", 10)
	checkErrors(t, api.ErrOverflow, []errorCase{
		{"length", tooGreat + "\x0e", 3},
		{"length without an end", endless, 3},
		{"value", "\x03" + tooGreat, 3},
		{"value without an end", "\x03" + endless, 3},
		{"second length", "\x02\x0e" + tooGreat + "\x01", 3},
		{"second value", "\x02\x0e\x01" + tooGreat, 3},
		{"before bytes are found to be left", "\x03" + tooGreat + "\x00", 3},
	})
	checkErrors(t, api.ErrForm, []errorCase{
		{"length with too many groups", "\x83\x00\x0e", 3},
		{"length 0 with too many groups", "\x80\x00\x0e", 3},
		{"length with too many groups, and no value", "\x83\x00", 3},
		{"value with too many groups", "\x03\x8e\x00", 3},
		{"second length with too many groups", "\x02\x0e\x81\x00\x01", 3},
		{"second value with too many groups", "\x02\x0e\x01\x81\x00", 3},
	})
}

// Promise 9.2: a run is as long as possible.
func TestDecodeRefusesTheValueOfTheRunBefore(t *testing.T) {
	for _, v := range sampleValues() {
		value := slowValue(v)
		checkErrors(t, api.ErrForm, []errorCase{
			{"two runs", "\x02" + value + "\x01" + value, 3},
			{"last of three runs", "\x01" + slowValue(v^1) + "\x01" + value + "\x01" + value, 3},
			{"before elements are found to be missing", "\x01" + value + "\x01" + value, 3},
			{"before the next run", "\x01" + value + "\x01" + value + "\x00", 3},
		})
		checkDecode(t, "\x01"+value+"\x01"+slowValue(v^1)+"\x01"+value, []int64{v, v ^ 1, v})
	}
}

// Promise 9.2.
func TestDecodeRefusesBytesThatAreLeft(t *testing.T) {
	for _, left := range []string{"\x00", "\x01", "\x0e", "\x80", "\xff", "\x01\x01", "\x01\x0e", strings.Repeat("\xff", 30)} {
		checkErrors(t, api.ErrForm, []errorCase{
			{"nothing is wanted", left, 0},
			{"after a run", "\x03\x0e" + left, 3},
			{"after two runs", "\x02\x0e\x01\x01" + left, 3},
			{"after a batch", "\x80\x20\x0e" + left, api.MaxBatch},
		})
	}
}

// Promise 9.2: the first run with an error decides which one is returned.
func TestDecodeReturnsTheErrorOfTheFirstRun(t *testing.T) {
	overflow := strings.Repeat("\xff", 10)
	checkErrors(t, api.ErrForm, []errorCase{
		{"length 0, then a number that is too great", "\x00" + overflow, 3},
		{"length 0 in the second run, then the end", "\x01\x02\x00", 3},
		{"the same value, then a number that is too great", "\x01\x02\x01\x02" + overflow, 3},
	})
	checkErrors(t, api.ErrOverflow, []errorCase{
		{"a number that is too great, then a length 0", "\x01" + overflow + "\x00", 3},
		{"a number that is too great after the value of the run before", "\x01\x02\x01" + overflow, 3},
	})
}

// checkAgainstSlowDecode compares all results of Decode, and Decode with Encode.
func checkAgainstSlowDecode(t *testing.T, s string, n int) {
	t.Helper()
	want, wanted := slowDecode(s, n, nil)
	l, e := Decode(s, n)
	if e != wanted || !slices.Equal(l, want) {
		t.Fatalf("Decode(%x, %d) = %v, %d, want %v, %d", s, n, l, e, want, wanted)
	}
	if e == api.OK && (len(l) != n || Encode(l) != s) {
		t.Fatalf("Decode(%x, %d) = %v, but Encode of it is %x", s, n, l, Encode(l))
	}
}

// Promise 9.2: Decode accepts only what Encode returns, and finds the right error otherwise.
func TestDecodeOfAllShortStrings(t *testing.T) {
	alphabet := []byte{0x00, 0x01, 0x02, 0x03, 0x7f, 0x80, 0x81, 0xff}
	var extend func(s string)
	extend = func(s string) {
		for n := range 6 {
			checkAgainstSlowDecode(t, s, n)
		}
		if len(s) == 6 {
			return
		}
		for _, b := range alphabet {
			extend(s + string([]byte{b}))
		}
	}
	extend("")
}

// Promise 9.2: encodings with a byte that is changed, lost or added.
func TestDecodeOfDamagedEncodings(t *testing.T) {
	r := rand.New(rand.NewSource(92))
	for range 2000 {
		n := 1 + r.Intn(40)
		s := Encode(randomList(r, n, 1+r.Intn(10)))
		for at := range len(s) {
			b := string([]byte{byte(r.Intn(256))})
			for _, damaged := range []string{s[:at] + b + s[at+1:], s[:at] + s[at+1:], s[:at] + b + s[at:], s[:at]} {
				checkAgainstSlowDecode(t, damaged, n)
			}
		}
		for _, other := range []int{0, n - 1, n + 1} {
			checkAgainstSlowDecode(t, s, other)
		}
	}
}

// Rule R2: results are new memory.
func TestDecodeReturnsNewMemory(t *testing.T) {
	first, _ := Decode("\x03\x0e\x01\x01", 4)
	for i := range first {
		first[i] = 99
	}
	checkDecode(t, "\x03\x0e\x01\x01", []int64{7, 7, 7, -1})
}
