package varint

import (
	"math"
	"math/big"
	"strings"
	"testing"

	"micropart/api"
)

// continued returns n bytes with the highest bit set and no other one.
func continued(n int) string { return strings.Repeat("\x80", n) }

// sampleNumbers returns the numbers around every power of two, in ascending order without repetitions:
// the number of groups changes between some of them.
func sampleNumbers() []uint64 {
	numbers := []uint64{0, 1}
	for shift := 1; shift < 64; shift++ {
		power := uint64(1) << shift
		for _, v := range []uint64{power - 1, power, power + 1} {
			if v > numbers[len(numbers)-1] {
				numbers = append(numbers, v)
			}
		}
	}
	return append(numbers, math.MaxUint64-1, math.MaxUint64)
}

// slowEncoding writes v with division instead of shifts.
func slowEncoding(v uint64) string {
	encoding := []byte{byte(v % 128)}
	for v /= 128; v > 0; v /= 128 {
		encoding[len(encoding)-1] += 128
		encoding = append(encoding, byte(v%128))
	}
	return string(encoding)
}

// Promise 1.1.
func TestPutAndSizeOfKnownNumbers(t *testing.T) {
	for _, c := range []struct {
		v    uint64
		want string
	}{
		{0, "\x00"},
		{1, "\x01"},
		{127, "\x7f"},
		{128, "\x80\x01"},
		{129, "\x81\x01"},
		{300, "\xac\x02"},
		{1<<14 - 1, "\xff\x7f"},
		{1 << 14, "\x80\x80\x01"},
		{1<<63 - 1, strings.Repeat("\xff", 8) + "\x7f"},
		{1 << 63, continued(9) + "\x01"},
		{math.MaxUint64, strings.Repeat("\xff", 9) + "\x01"},
	} {
		if got := Put(c.v); got != c.want {
			t.Errorf("Put(%d) = %x, want %x", c.v, got, c.want)
		}
		if got := Size(c.v); got != len(c.want) {
			t.Errorf("Size(%d) = %d, want %d", c.v, got, len(c.want))
		}
	}
}

// Promise 1.1.
func TestPutAndSizeAroundPowersOfTwo(t *testing.T) {
	for _, v := range sampleNumbers() {
		want := slowEncoding(v)
		if got := Put(v); got != want {
			t.Errorf("Put(%d) = %x, want %x", v, got, want)
		}
		if got := Size(v); got != len(want) {
			t.Errorf("Size(%d) = %d, want %d", v, got, len(want))
		}
	}
}

// Promise 1.1: the number of groups changes exactly at the powers of 128.
func TestSizeChangesAtPowersOf128(t *testing.T) {
	for size := 1; size < 10; size++ {
		first := uint64(1) << (7 * size)
		if got := Size(first - 1); got != size {
			t.Errorf("Size(%d) = %d, want %d", first-1, got, size)
		}
		if got := Size(first); got != size+1 {
			t.Errorf("Size(%d) = %d, want %d", first, got, size+1)
		}
	}
}

type getCase struct {
	name string
	s    string
	at   int
	v    uint64
	next int
	e    api.Errno
}

func checkGet(t *testing.T, cases []getCase) {
	t.Helper()
	for _, c := range cases {
		v, next, e := Get(c.s, c.at)
		if v != c.v || next != c.next || e != c.e {
			t.Errorf("%s: Get(%x, %d) = %d, %d, %d, want %d, %d, %d", c.name, c.s, c.at, v, next, e, c.v, c.next, c.e)
		}
	}
}

// Promise 1.2.
func TestGetReadsTheEncodingAtTheIndex(t *testing.T) {
	checkGet(t, []getCase{
		{"zero", "\x00", 0, 0, 1, api.OK},
		{"example", "\xac\x02", 0, 300, 2, api.OK},
		{"last byte of another encoding", "\xac\x02", 1, 2, 2, api.OK},
		{"more bytes after it", "\xac\x02\xff", 0, 300, 2, api.OK},
		{"bytes before it", "\xff\xff\xac\x02", 2, 300, 4, api.OK},
		{"a zero group that is not the last one", "\x80\x01", 0, 128, 2, api.OK},
		{"zero before another encoding", "\x00\x00", 0, 0, 1, api.OK},
		{"nine bytes", continued(8) + "\x7f", 0, 127 << 56, 9, api.OK},
		{"ten bytes", continued(9) + "\x01", 0, 1 << 63, 10, api.OK},
		{"greatest number", strings.Repeat("\xff", 9) + "\x01", 0, math.MaxUint64, 10, api.OK},
		{"ten bytes among others", "\x80\x80" + continued(9) + "\x01\x80", 2, 1 << 63, 12, api.OK},
	})
}

// Promise 1.2.
func TestGetRefusesAnIndexOutOfRange(t *testing.T) {
	checkGet(t, []getCase{
		{"negative", "\x01", -1, 0, 0, api.ErrRange},
		{"least index", "\x01", math.MinInt, 0, 0, api.ErrRange},
		{"beyond the end", "\x01", 2, 0, 0, api.ErrRange},
		{"greatest index", "\x01", math.MaxInt, 0, 0, api.ErrRange},
		{"beyond the end of nothing", "", 1, 0, 0, api.ErrRange},
		{"negative, before an encoding that is not valid", continued(10), -1, 0, 0, api.ErrRange},
	})
}

// Promise 1.2.
func TestGetRefusesAnEncodingThatEndsTooEarly(t *testing.T) {
	checkGet(t, []getCase{
		{"nothing", "", 0, 0, 0, api.ErrShort},
		{"at the end", "\x01", 1, 0, 0, api.ErrShort},
		{"one byte", "\x80", 0, 0, 0, api.ErrShort},
		{"nine bytes", continued(9), 0, 0, 0, api.ErrShort},
		{"nine bytes from the index on", continued(12), 3, 0, 0, api.ErrShort},
		{"after an encoding", "\x80\x01\xff", 2, 0, 0, api.ErrShort},
	})
}

// Promise 1.2.
func TestGetRefusesANumberThatIsTooGreat(t *testing.T) {
	checkGet(t, []getCase{
		{"tenth byte 2", continued(9) + "\x02", 0, 0, 0, api.ErrOverflow},
		{"tenth byte 3", continued(9) + "\x03", 0, 0, 0, api.ErrOverflow},
		{"tenth byte 7f", continued(9) + "\x7f", 0, 0, 0, api.ErrOverflow},
		{"ten bytes without a last one", continued(10), 0, 0, 0, api.ErrOverflow},
		{"tenth byte 81", continued(9) + "\x81", 0, 0, 0, api.ErrOverflow},
		{"last byte after ten others", continued(10) + "\x00", 0, 0, 0, api.ErrOverflow},
		{"many bytes without a last one", continued(1000), 0, 0, 0, api.ErrOverflow},
		{"ten bytes from the index on", continued(13), 3, 0, 0, api.ErrOverflow},
	})
}

// Promise 1.2.
func TestGetRefusesALastGroupThatIsNotNecessary(t *testing.T) {
	for size := 2; size <= 10; size++ {
		checkGet(t, []getCase{
			{"zero with too many groups", continued(size-1) + "\x00", 0, 0, 0, api.ErrForm},
			{"ones with too many groups", strings.Repeat("\xff", size-1) + "\x00", 0, 0, 0, api.ErrForm},
			{"within others", "\x05" + continued(size-1) + "\x00\x05", 1, 0, 0, api.ErrForm},
		})
	}
}

// Promise 1.2: the errors leave no encoding of two or three bytes that Put does not return.
func TestGetAcceptsOnlyWhatPutReturns(t *testing.T) {
	for n := range 1 << 16 {
		for _, s := range []string{
			string([]byte{byte(n), byte(n >> 8)}),
			string([]byte{byte(n) | 0x80, byte(n >> 8), 0x01}),
			continued(7) + string([]byte{0x80 | byte(n), 0x80, byte(n >> 8)}),
		} {
			v, next, e := Get(s, 0)
			if e == api.OK && (next > len(s) || Put(v) != s[:next]) {
				t.Fatalf("Get(%x, 0) = %d, %d", s, v, next)
			}
			if e != api.OK && (v != 0 || next != 0) {
				t.Fatalf("Get(%x, 0) = %d, %d, %d", s, v, next, e)
			}
		}
	}
}

// Promise 1.3, with integers that cannot overflow.
func TestZigAndZag(t *testing.T) {
	numbers := []int64{-2, -1, 0, 1, 2, math.MinInt64, math.MinInt64 + 1, math.MaxInt64 - 1, math.MaxInt64}
	for _, v := range sampleNumbers() {
		numbers = append(numbers, int64(v), -int64(v))
	}
	for _, n := range numbers {
		want := new(big.Int).Mul(big.NewInt(n), big.NewInt(2))
		if n < 0 {
			want.Neg(want).Sub(want, big.NewInt(1))
		}
		v := Zig(n)
		if want.Cmp(new(big.Int).SetUint64(v)) != 0 {
			t.Errorf("Zig(%d) = %d, want %s", n, v, want)
		}
		if got := Zag(v); got != n {
			t.Errorf("Zag(%d) = %d, want %d", v, got, n)
		}
	}
}

// Promise 1.3: Zag is an inverse for every number, not only for those that Zig was seen to return.
func TestZagIsUndoneByZig(t *testing.T) {
	for _, v := range sampleNumbers() {
		if got := Zig(Zag(v)); got != v {
			t.Errorf("Zig(Zag(%d)) = %d", v, got)
		}
	}
	for v, want := range map[uint64]int64{0: 0, 1: -1, 2: 1, 3: -2, math.MaxUint64 - 1: math.MaxInt64, math.MaxUint64: math.MinInt64} {
		if got := Zag(v); got != want {
			t.Errorf("Zag(%d) = %d, want %d", v, got, want)
		}
	}
}

// The chapter's first consequence: Get undoes Put, also within other bytes.
func TestGetUndoesPut(t *testing.T) {
	for _, v := range sampleNumbers() {
		s := Put(v)
		checkGet(t, []getCase{
			{"alone", s, 0, v, len(s), api.OK},
			{"within others", "\x80\x7f" + s + "\xff", 2, v, len(s) + 2, api.OK},
		})
		for size := range len(s) {
			checkGet(t, []getCase{{"cut off", s[:size], 0, 0, 0, api.ErrShort}})
		}
	}
}

// The chapter's other consequences.
func TestNoEncodingIsTheBeginningOfAnother(t *testing.T) {
	numbers := sampleNumbers()
	for v := range uint64(1000) {
		numbers = append(numbers, v)
	}
	encodings := make([]string, len(numbers))
	for i, v := range numbers {
		encodings[i] = Put(v)
	}
	for i, v := range numbers {
		for j, w := range numbers {
			if v != w && strings.HasPrefix(encodings[j], encodings[i]) {
				t.Fatalf("the encoding of %d begins with that of %d", w, v)
			}
		}
	}
}
