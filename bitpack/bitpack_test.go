package bitpack

import (
	"math"
	"slices"
	"strings"
	"testing"

	"micropart/api"
)

// ones returns the greatest number of w binary digits.
func ones(w int) uint64 {
	v := uint64(0)
	for range w {
		v = 2*v + 1
	}
	return v
}

// sampleList returns n numbers of at most w binary digits; the first three use all of the
// digits, none of them, and the highest one. The others follow a rule that mixes bits.
func sampleList(n, w int) []uint64 {
	l := make([]uint64, n)
	state := uint64(n*131 + w)
	for i := range l {
		state = state*6364136223846793005 + 1442695040888963407
		switch i {
		case 0:
			l[i] = ones(w)
		case 1:
			l[i] = 0
		case 2:
			l[i] = ones(w) - ones(max(w-1, 0))
		default:
			l[i] = (state>>32 | state<<32) & ones(w)
		}
	}
	return l
}

// slowPack sets bit after bit, as the promise words it.
func slowPack(l []uint64, w int) string {
	bytesNeeded := 0
	for bytesNeeded*8 < len(l)*w {
		bytesNeeded++
	}
	packed := make([]byte, bytesNeeded)
	for i, v := range l {
		for k := range w {
			if v/(uint64(1)<<k)%2 == 1 {
				j := i*w + k
				packed[j/8] += byte(1) << (j % 8)
			}
		}
	}
	return string(packed)
}

func checkPack(t *testing.T, name string, l []uint64, w int, want string, wantErr api.Errno) {
	t.Helper()
	before := slices.Clone(l)
	s, e := Pack(l, w)
	if s != want || e != wantErr {
		t.Errorf("%s: Pack of %d numbers with w = %d is %x, %d, want %x, %d", name, len(l), w, s, e, want, wantErr)
	}
	if !slices.Equal(l, before) {
		t.Errorf("%s: Pack with w = %d changed its argument", name, w)
	}
}

func checkUnpack(t *testing.T, name, s string, n, w int, want []uint64, wantErr api.Errno) {
	t.Helper()
	l, e := Unpack(s, n, w)
	if !slices.Equal(l, want) || e != wantErr {
		t.Errorf("%s: Unpack(%x, %d, %d) = %d, %d, want %d, %d", name, s, n, w, l, e, want, wantErr)
	}
}

// Promise 2.1.
func TestWidthAroundPowersOfTwo(t *testing.T) {
	if got := Width(0); got != 0 {
		t.Errorf("Width(0) = %d", got)
	}
	for digits := 1; digits <= 64; digits++ {
		least := uint64(1) << (digits - 1)
		for _, v := range []uint64{least, least + least/2, ones(digits)} {
			if got := Width(v); got != digits {
				t.Errorf("Width(%d) = %d, want %d", v, got, digits)
			}
		}
	}
}

// Promise 2.1: the quotient is rounded up, for all arguments that are valid.
func TestNeedRoundsUp(t *testing.T) {
	for _, c := range []struct{ n, w, want int }{
		{0, 0, 0}, {0, 64, 0}, {api.MaxBatch, 0, 0},
		{1, 1, 1}, {8, 1, 1}, {9, 1, 2}, {3, 2, 1}, {5, 7, 5}, {8, 7, 7}, {7, 8, 7}, {1, 63, 8}, {1, 64, 8},
		{api.MaxBatch, 1, 512}, {api.MaxBatch - 1, 63, 32249}, {api.MaxBatch, 64, 32768},
	} {
		if got := Need(c.n, c.w); got != c.want {
			t.Errorf("Need(%d, %d) = %d, want %d", c.n, c.w, got, c.want)
		}
	}
	for w := range 65 {
		for n := range api.MaxBatch + 1 {
			got := Need(n, w)
			if spare := got*8 - n*w; spare < 0 || spare > 7 {
				t.Fatalf("Need(%d, %d) = %d", n, w, got)
			}
		}
	}
}

// Promise 2.1.
func TestNeedIsZeroForArgumentsOutOfRange(t *testing.T) {
	for _, c := range []struct{ n, w int }{
		{-1, 8}, {-8, 8}, {math.MinInt, 8}, {api.MaxBatch + 1, 8}, {math.MaxInt, 8},
		{8, -1}, {8, -8}, {8, math.MinInt}, {8, 65}, {8, math.MaxInt},
		{-8, -8}, {math.MinInt, math.MinInt}, {math.MaxInt, math.MaxInt}, {-1, 65}, {api.MaxBatch + 1, 65},
	} {
		if got := Need(c.n, c.w); got != 0 {
			t.Errorf("Need(%d, %d) = %d, want 0", c.n, c.w, got)
		}
	}
}

// Promises 2.2 and 2.3, and the example of the chapter.
func TestPackAndUnpackOfKnownLists(t *testing.T) {
	for _, c := range []struct {
		name string
		l    []uint64
		w    int
		s    string
	}{
		{"example", []uint64{1, 2, 3}, 2, "\x39"},
		{"nothing", nil, 9, ""},
		{"nothing, without bits", nil, 0, ""},
		{"nothing, greatest width", []uint64{}, 64, ""},
		{"zeros without bits", []uint64{0, 0, 0}, 0, ""},
		{"single bits", []uint64{1, 0, 1, 1, 0, 0, 0, 0, 1}, 1, "\x0d\x01"},
		{"across the end of a byte", []uint64{5, 1, 7}, 3, "\xcd\x01"},
		{"whole bytes", []uint64{0x12, 0xfe}, 8, "\x12\xfe"},
		{"lowest byte first", []uint64{0x1234, 0x5678}, 16, "\x34\x12\x78\x56"},
		{"half bytes", []uint64{0x123, 0x456}, 12, "\x23\x61\x45"},
		{"leading zeros", []uint64{1, 1}, 20, "\x01\x00\x10\x00\x00"},
		{"63 bits", []uint64{1<<63 - 1, 1}, 63, "\xff\xff\xff\xff\xff\xff\xff\xff\x00\x00\x00\x00\x00\x00\x00\x00"},
		{"64 bits", []uint64{1 << 63, math.MaxUint64}, 64, "\x00\x00\x00\x00\x00\x00\x00\x80\xff\xff\xff\xff\xff\xff\xff\xff"},
	} {
		checkPack(t, c.name, c.l, c.w, c.s, api.OK)
		checkUnpack(t, c.name, c.s, len(c.l), c.w, c.l, api.OK)
	}
}

// Promises 2.2 and 2.3: all widths, and all places of the last bit within its byte.
func TestPackAndUnpackOfAllWidths(t *testing.T) {
	for w := range 65 {
		for _, n := range []int{0, 1, 2, 3, 4, 5, 6, 7, 8, 9, 100, api.MaxBatch - 1, api.MaxBatch} {
			l := sampleList(n, w)
			s := slowPack(l, w)
			if got, e := Pack(l, w); got != s || e != api.OK || len(got) != Need(n, w) {
				t.Errorf("Pack of %d numbers with w = %d has %d bytes, %d", n, w, len(got), e)
			}
			if got, e := Unpack(s, n, w); !slices.Equal(got, l) || e != api.OK {
				t.Errorf("Unpack(.., %d, %d) has %d numbers, %d", n, w, len(got), e)
			}
		}
	}
}

// Promises 2.2 and 2.3: each bit has its place, and no influence on other elements.
func TestPackAndUnpackOfASingleBit(t *testing.T) {
	const n = 9
	for w := 1; w <= 64; w++ {
		for i := range n {
			for k := range w {
				l := make([]uint64, n)
				l[i] = 1 << k
				packed := make([]byte, Need(n, w))
				packed[(i*w+k)/8] = 1 << ((i*w + k) % 8)
				checkPack(t, "single bit", l, w, string(packed), api.OK)
				checkUnpack(t, "single bit", string(packed), n, w, l, api.OK)
			}
		}
	}
}

// Promise 2.2: the errors and their order.
func TestPackRefusesListsThatAreNotValid(t *testing.T) {
	tooMany := make([]uint64, api.MaxBatch+1)
	tooManyAndTooGreat := slices.Repeat([]uint64{4}, api.MaxBatch+1)
	for _, c := range []struct {
		name string
		l    []uint64
		w    int
		e    api.Errno
	}{
		{"width -1", []uint64{0}, -1, api.ErrRange},
		{"width 65", []uint64{0}, 65, api.ErrRange},
		{"least width", nil, math.MinInt, api.ErrRange},
		{"greatest width", nil, math.MaxInt, api.ErrRange},
		{"width before number of elements", tooMany, 65, api.ErrRange},
		{"width before elements", []uint64{4}, -1, api.ErrRange},
		{"too many elements", tooMany, 1, api.ErrFull},
		{"too many elements without bits", tooMany, 0, api.ErrFull},
		{"too many elements of the greatest width", tooMany, 64, api.ErrFull},
		{"number of elements before elements", tooManyAndTooGreat, 2, api.ErrFull},
		{"one digit too many", []uint64{4}, 2, api.ErrOverflow},
		{"a digit without bits", []uint64{0, 0, 1}, 0, api.ErrOverflow},
		{"low digits 0", []uint64{1 << 63}, 8, api.ErrOverflow},
		{"first of many", []uint64{256, 1, 1}, 8, api.ErrOverflow},
		{"last of many", []uint64{1, 1, 256}, 8, api.ErrOverflow},
	} {
		checkPack(t, c.name, c.l, c.w, "", c.e)
	}
	for w := range 64 {
		checkPack(t, "least number that is too great", []uint64{ones(w), ones(w) + 1}, w, "", api.ErrOverflow)
		checkPack(t, "greatest number", []uint64{math.MaxUint64}, w, "", api.ErrOverflow)
	}
}

// Promise 2.3: the errors and their order.
func TestUnpackRefusesNumbersOutOfRange(t *testing.T) {
	for _, c := range []struct {
		name string
		s    string
		n, w int
	}{
		{"count -1", "", -1, 2},
		{"least count", "", math.MinInt, 64},
		{"one too many", strings.Repeat("\x00", api.MaxBatch+1), api.MaxBatch + 1, 8},
		{"one too many without bits", "", api.MaxBatch + 1, 0},
		{"greatest count", "", math.MaxInt, 64},
		{"width -1", "\x39", 3, -1},
		{"width 65", strings.Repeat("\x00", 100), 3, 65},
		{"least width", "", 0, math.MinInt},
		{"greatest width", "", 0, math.MaxInt},
		{"product that wraps", "", math.MinInt, math.MinInt},
		{"range before form", "\xff\xff", -1, 2},
		{"range before length", "", 1, 65},
	} {
		checkUnpack(t, c.name, c.s, c.n, c.w, nil, api.ErrRange)
	}
}

// Promise 2.3.
func TestUnpackRefusesAStringOfAnotherLength(t *testing.T) {
	for w := 1; w <= 64; w++ {
		for _, n := range []int{1, 3, 8, api.MaxBatch} {
			zeros := strings.Repeat("\x00", Need(n, w))
			full := slowPack(slices.Repeat([]uint64{ones(w)}, n), w)
			for _, s := range []string{zeros, full} {
				checkUnpackError(t, "no bytes", "", n, w, api.ErrShort)
				checkUnpackError(t, "one byte less", s[:len(s)-1], n, w, api.ErrShort)
				checkUnpackError(t, "one byte more", s+"\x00", n, w, api.ErrForm)
				checkUnpackError(t, "many bytes more", s+strings.Repeat("\xff", 100), n, w, api.ErrForm)
			}
		}
	}
	for _, c := range []struct {
		name string
		s    string
		n, w int
		e    api.Errno
	}{
		{"byte for no numbers", "\x00", 0, 8, api.ErrForm},
		{"bit for no numbers", "\x01", 0, 1, api.ErrForm},
		{"byte for numbers without bits", "\x00", 5, 0, api.ErrForm},
		{"nothing at all but a byte", "\x00", 0, 0, api.ErrForm},
		{"too short, with bits that would remain", "\xff", 9, 1, api.ErrShort},
	} {
		checkUnpackError(t, c.name, c.s, c.n, c.w, c.e)
	}
}

// checkUnpackError checks a case whose string is too long to be printed.
func checkUnpackError(t *testing.T, name, s string, n, w int, want api.Errno) {
	t.Helper()
	if l, e := Unpack(s, n, w); len(l) != 0 || e != want {
		t.Errorf("%s: Unpack of %d bytes, %d, %d = %d numbers, %d, want %d", name, len(s), n, w, len(l), e, want)
	}
}

// Promise 2.3: any bit that remains, and none of the others.
func TestUnpackRefusesRemainingBits(t *testing.T) {
	for w := 1; w <= 64; w++ {
		for n := 1; n <= 9; n++ {
			l := sampleList(n, w)
			packed := []byte(slowPack(l, w))
			for j := n * w; j < len(packed)*8; j++ {
				damaged := slices.Clone(packed)
				damaged[j/8] |= 1 << (j % 8)
				checkUnpackError(t, "remaining bit", string(damaged), n, w, api.ErrForm)
			}
			full := slices.Repeat([]uint64{ones(w)}, n)
			checkUnpack(t, "all other bits", slowPack(full, w), n, w, full, api.OK)
		}
	}
}

// Promise 2.3: Unpack accepts only what Pack returns, so that a list has one encoding.
func TestUnpackAcceptsOnlyWhatPackReturns(t *testing.T) {
	for two := range 1 << 16 {
		s := string([]byte{byte(two), byte(two >> 8)})
		for w := 1; w <= 16; w++ {
			n := 16 / w
			l, e := Unpack(s, n, w)
			if e != api.OK {
				continue
			}
			if packed, packError := Pack(l, w); packed != s || packError != api.OK {
				t.Fatalf("Unpack(%x, %d, %d) = %d, which is packed as %x, %d", s, n, w, l, packed, packError)
			}
		}
	}
}

// Rule R2: results are new memory.
func TestUnpackReturnsNewMemory(t *testing.T) {
	first, _ := Unpack("\x39", 3, 2)
	first[0] = 0
	checkUnpack(t, "after a change of another result", "\x39", 3, 2, []uint64{1, 2, 3}, api.OK)
}
