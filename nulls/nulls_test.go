package nulls

import (
	"math"
	"math/rand"
	"slices"
	"strings"
	"testing"

	"micropart/api"
)

// slowBytes counts the bytes of a bitmap with n bits.
func slowBytes(n int) int {
	bytes := 0
	for bytes*8 < n {
		bytes++
	}
	return bytes
}

// slowPack adds up the values of the bits, as the promise words them.
func slowPack(l []bool) string {
	bitmap := make([]byte, slowBytes(len(l)))
	for i, set := range l {
		if set {
			bitmap[i/8] += byte(math.Pow(2, float64(i%8)))
		}
	}
	return string(bitmap)
}

// slowBits returns all bits of s, by halving its bytes.
func slowBits(s string) []bool {
	bits := []bool{}
	for _, b := range []byte(s) {
		for range 8 {
			bits = append(bits, b%2 == 1)
			b /= 2
		}
	}
	return bits
}

func countOf(l []bool, wanted bool) int {
	n := 0
	for _, set := range l {
		if set == wanted {
			n++
		}
	}
	return n
}

func randomList(r *rand.Rand, n int) []bool {
	l := make([]bool, n)
	for i := range l {
		l[i] = r.Intn(2) == 0
	}
	return l
}

func randomString(r *rand.Rand, n int) string {
	b := make([]byte, n)
	r.Read(b)
	return string(b)
}

// twoBytes calls f with all strings of one and of two bytes.
func twoBytes(f func(s string)) {
	for i := range 1 << 8 {
		f(string([]byte{byte(i)}))
	}
	for i := range 1 << 16 {
		f(string([]byte{byte(i), byte(i >> 8)}))
	}
}

func checkPack(t *testing.T, l []bool, want string) {
	t.Helper()
	before := slices.Clone(l)
	if s := Pack(l); s != want {
		t.Errorf("Pack of %d elements is %x, want %x", len(l), s, want)
	}
	if !slices.Equal(l, before) {
		t.Errorf("Pack changed its %d elements", len(l))
	}
}

func checkUnpack(t *testing.T, s string, n int, want []bool) {
	t.Helper()
	if l, e := Unpack(s, n); e != api.OK || !slices.Equal(l, want) {
		t.Errorf("Unpack(%x, %d) = %v, %d, want %v", s, n, l, e, want)
	}
}

func checkUnpackError(t *testing.T, name, s string, n int, want api.Errno) {
	t.Helper()
	if l, e := Unpack(s, n); len(l) != 0 || e != want {
		t.Errorf("%s: Unpack of %d bytes, %d = %d elements, %d, want %d", name, len(s), n, len(l), e, want)
	}
}

func checkRank(t *testing.T, s string, i, want int) {
	t.Helper()
	if n := Rank(s, i); n != want {
		t.Errorf("Rank of %d bytes, %d = %d, want %d", len(s), i, n, want)
	}
}

// Promise 8.1, and the example of the chapter.
func TestPackAndUnpackOfKnownLists(t *testing.T) {
	for _, c := range []struct {
		l []bool
		s string
	}{
		{[]bool{true, false, true}, "\x05"}, // the example
		{nil, ""},
		{[]bool{}, ""},
		{[]bool{false}, "\x00"},
		{[]bool{true}, "\x01"},
		{[]bool{false, false, false, false, false, false, false, true}, "\x80"},
		{slices.Repeat([]bool{true}, 7), "\x7f"},
		{slices.Repeat([]bool{true}, 8), "\xff"},
		{slices.Repeat([]bool{true}, 9), "\xff\x01"},
		{make([]bool, 8), "\x00"},
		{make([]bool, 9), "\x00\x00"},
		{append(make([]bool, 8), true), "\x00\x01"},
		{append(make([]bool, 15), true, false), "\x00\x80\x00"},
		{make([]bool, api.MaxBatch), strings.Repeat("\x00", 512)},
		{slices.Repeat([]bool{true}, api.MaxBatch), strings.Repeat("\xff", 512)},
		{slices.Repeat([]bool{true}, api.MaxBatch-1), strings.Repeat("\xff", 511) + "\x7f"},
	} {
		checkPack(t, c.l, c.s)
		checkUnpack(t, c.s, len(c.l), c.l)
	}
}

// Promise 8.1: all lengths that Unpack permits.
func TestPackAndUnpackOfAllLengths(t *testing.T) {
	r := rand.New(rand.NewSource(81))
	for n := range api.MaxBatch + 1 {
		l := randomList(r, n)
		s := slowPack(l)
		checkPack(t, l, s)
		checkUnpack(t, s, n, l)
	}
}

// Promise 8.1: each element has its bit, and no influence on the others.
func TestPackAndUnpackOfASingleBit(t *testing.T) {
	const n = 41
	for i := range n {
		l := make([]bool, n)
		l[i] = true
		bitmap := make([]byte, 6)
		bitmap[i/8] = 1 << (i % 8)
		checkPack(t, l, string(bitmap))
		checkUnpack(t, string(bitmap), n, l)
	}
}

// Promise 8.1: the number of elements that Pack takes is not restricted.
func TestPackOfMoreElementsThanABatch(t *testing.T) {
	r := rand.New(rand.NewSource(811))
	for _, n := range []int{api.MaxBatch + 1, api.MaxBatch + 8, 1<<16 + 3, 1 << 20} {
		l := randomList(r, n)
		if Pack(l) != slowPack(l) {
			t.Errorf("Pack of %d elements", n)
		}
	}
}

// Promise 8.1: the errors and their order.
func TestUnpackRefusesNumbersOutOfRange(t *testing.T) {
	for _, n := range []int{-1, -7, -8, -9, math.MinInt, api.MaxBatch + 1, api.MaxBatch + 8, 1 << 32, math.MaxInt - 7, math.MaxInt} {
		for _, s := range []string{"", "\x00", "\xff", strings.Repeat("\x00", 512), strings.Repeat("\x00", 513), strings.Repeat("\xff", 600)} {
			checkUnpackError(t, "range before length and form", s, n, api.ErrRange)
		}
	}
}

// Promise 8.1.
func TestUnpackRefusesAStringOfAnotherLength(t *testing.T) {
	for n := range api.MaxBatch + 1 {
		need := slowBytes(n)
		s := strings.Repeat("\x00", need)
		checkUnpackError(t, "one byte more", s+"\x00", n, api.ErrForm)
		checkUnpackError(t, "one full byte more", s+"\xff", n, api.ErrForm)
		checkUnpackError(t, "many bytes more", s+strings.Repeat("\x00", 600), n, api.ErrForm)
		if need > 0 {
			checkUnpackError(t, "no bytes", "", n, api.ErrShort)
			checkUnpackError(t, "one byte less", s[1:], n, api.ErrShort)
			checkUnpackError(t, "one byte less, with bits that would remain", strings.Repeat("\xff", need-1), n, api.ErrShort)
		}
	}
}

// Promise 8.1: any bit that remains, and none of the others.
func TestUnpackRefusesRemainingBits(t *testing.T) {
	for _, n := range []int{1, 2, 3, 4, 5, 6, 7, 9, 12, 15, 17, 4089, api.MaxBatch - 1} {
		for _, set := range []bool{false, true} {
			l := slices.Repeat([]bool{set}, n)
			s := slowPack(l)
			checkUnpack(t, s, n, l)
			for j := n; j < len(s)*8; j++ {
				damaged := []byte(s)
				damaged[j/8] |= 1 << (j % 8)
				checkUnpackError(t, "remaining bit", string(damaged), n, api.ErrForm)
			}
		}
	}
}

// Promise 8.1: Unpack accepts only what Pack returns, so that a list has one bitmap.
func TestUnpackAcceptsOnlyWhatPackReturns(t *testing.T) {
	twoBytes(func(s string) {
		bits := slowBits(s)
		for n := range 18 {
			want := api.OK
			switch {
			case n > len(bits):
				want = api.ErrShort
			case n <= len(bits)-8 || slices.Contains(bits[n:], true):
				want = api.ErrForm
			}
			l, e := Unpack(s, n)
			if e != want || e != api.OK && len(l) != 0 || e == api.OK && (!slices.Equal(l, bits[:n]) || Pack(l) != s) {
				t.Fatalf("Unpack(%x, %d) = %v, %d, want %d", s, n, l, e, want)
			}
		}
	})
}

// Rule R2: results are new memory.
func TestUnpackReturnsNewMemory(t *testing.T) {
	first, _ := Unpack("\x05", 3)
	first[0] = false
	checkUnpack(t, "\x05", 3, []bool{true, false, true})
}

// Promise 8.2.
func TestCountOfKnownBitmaps(t *testing.T) {
	for s, want := range map[string]int{
		"": 0, "\x00": 0, "\x01": 1, "\x80": 1, "\x05": 2, "\x7f": 7, "\xfe": 7, "\xff": 8,
		"\xff\x01": 9, "\x01\xff": 9, "\x00\x00\x10": 1, "\xff\xff\xff": 24, "\xc3\xa9": 8,
		strings.Repeat("\xff", 512): api.MaxBatch, strings.Repeat("\x00", 512): 0, strings.Repeat("\xff", 1<<20): 1 << 23,
	} {
		if n := Count(s); n != want {
			t.Errorf("Count of %d bytes = %d, want %d", len(s), n, want)
		}
	}
}

// Promise 8.2.
func TestCountOfAllStringsOfTwoBytes(t *testing.T) {
	twoBytes(func(s string) {
		if n, want := Count(s), countOf(slowBits(s), true); n != want {
			t.Fatalf("Count(%x) = %d, want %d", s, n, want)
		}
	})
}

// Promise 8.2, and the example of the chapter.
func TestRankOfKnownBitmaps(t *testing.T) {
	for _, c := range []struct {
		s       string
		i, want int
	}{
		{"\x05", 3, 1}, // the example
		{"\x05", 0, 0}, {"\x05", 1, 0}, {"\x05", 2, 1}, {"\x05", 4, 2}, {"\x05", 7, 5}, {"\x05", 8, 6},
		{"", 0, 0}, {"\x00", 8, 8}, {"\xff", 8, 0}, {"\x80", 7, 7}, {"\x80", 8, 7}, {"\x01", 1, 0},
		{"\xff\x00", 8, 0}, {"\xff\x00", 9, 1}, {"\x00\xff", 8, 8}, {"\x00\xff", 9, 8}, {"\x00\xff", 16, 8},
	} {
		checkRank(t, c.s, c.i, c.want)
	}
}

// Promise 8.2: an index beyond the bits of s is taken as the nearest one.
func TestRankOfAnIndexOutOfRange(t *testing.T) {
	r := rand.New(rand.NewSource(82))
	for _, s := range []string{"", "\x00", "\xff", "\x05", "\xff\x00", "\x00\xff\x80", randomString(r, 100), strings.Repeat("\x00", 512)} {
		bits := len(s) * 8
		for _, i := range []int{-1, -2, -7, -8, -9, -1 << 32, math.MinInt + 7, math.MinInt} {
			checkRank(t, s, i, 0)
		}
		all := countOf(slowBits(s), false)
		for _, i := range []int{bits, bits + 1, bits + 7, bits + 8, bits + 9, bits + 1<<32, math.MaxInt - 7, math.MaxInt} {
			checkRank(t, s, i, all)
		}
	}
}

// Promise 8.2: all indices.
func TestRankOfAllIndices(t *testing.T) {
	r := rand.New(rand.NewSource(822))
	for range 20 {
		s := randomString(r, r.Intn(600))
		zeros := 0
		for i, set := range slowBits(s) {
			checkRank(t, s, i, zeros)
			if !set {
				zeros++
			}
		}
		checkRank(t, s, len(s)*8, zeros)
	}
	twoBytes(func(s string) {
		zeros := 0
		for i, set := range append(slowBits(s), true, true) {
			if n := Rank(s, i); n != zeros {
				t.Fatalf("Rank(%x, %d) = %d, want %d", s, i, n, zeros)
			}
			if !set {
				zeros++
			}
		}
	})
}

// The consequence of the chapter.
func TestRankIsTheIndexAmongTheValuesThatAreNotNull(t *testing.T) {
	r := rand.New(rand.NewSource(83))
	for _, n := range []int{1, 7, 8, 9, 100, api.MaxBatch} {
		isNull := randomList(r, n)
		bitmap := Pack(isNull)
		present := []int{} // the numbers of the values that are not null
		for i := range n {
			if !isNull[i] {
				present = append(present, i)
			}
		}
		for index, i := range present {
			checkRank(t, bitmap, i, index)
		}
		if len(present)+Count(bitmap) != n {
			t.Errorf("%d of %d values are not null, and %d are", len(present), n, Count(bitmap))
		}
	}
}
