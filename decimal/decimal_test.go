package decimal

import (
	"math"
	"math/big"
	"math/rand"
	"regexp"
	"strconv"
	"strings"
	"testing"

	"micropart/api"
)

const maxDecimal = int64(api.MaxDecimal)

// numbersOutOfRange and scalesOutOfRange lie close to the ranges, and far from them.
var (
	numbersOutOfRange = []int64{
		maxDecimal + 1, maxDecimal + 2, 2 * maxDecimal, math.MaxInt64 - 1, math.MaxInt64,
		-maxDecimal - 1, -maxDecimal - 2, -2 * maxDecimal, math.MinInt64 + 1, math.MinInt64,
	}
	scalesOutOfRange = []int{-1, -2, -18, math.MinInt32, math.MinInt, math.MinInt + 1, 19, 20, 36, 256, 1 << 32, 1<<32 + 2, math.MaxInt - 1, math.MaxInt}
)

// edgeNumbers returns numbers within the range, of both signs, with every count of digits, and
// with every count of zeros at their ends.
func edgeNumbers() []int64 {
	numbers := []int64{0, 5, 42, 105, 150, 155, 123456789, 987654321012345678, 102030405060708090, 99999999999999990, 999999999999999998}
	for power := int64(1); power <= 100000000000000000; power *= 10 {
		for _, n := range []int64{power - 1, power, power + 1, 2 * power, 5 * power, 9 * power, maxDecimal / power, maxDecimal / power * power} {
			numbers = append(numbers, n)
		}
	}
	for i := len(numbers) - 1; i >= 0; i-- {
		numbers = append(numbers, -numbers[i])
	}
	return numbers
}

// randomNumber returns a number within the range, with a random count of zeros at its end.
func randomNumber(r *rand.Rand) int64 {
	n := r.Int63n(2*maxDecimal+1) - maxDecimal
	for shorter := r.Intn(19); shorter > 0; shorter-- {
		n /= 10
	}
	for longer := r.Intn(19); longer > 0 && n <= maxDecimal/10 && n >= -maxDecimal/10; longer-- {
		n *= 10
	}
	return n
}

// slowFormat pads the digits of n with zeros, and puts the point between them.
func slowFormat(n int64, scale int) string {
	sign, digits := "", strconv.FormatInt(n, 10)
	if n < 0 {
		sign, digits = "-", digits[1:]
	}
	for len(digits) <= scale {
		digits = "0" + digits
	}
	if scale == 0 {
		return sign + digits
	}
	return sign + digits[:len(digits)-scale] + "." + digits[len(digits)-scale:]
}

func powerOfTen(k int) *big.Int {
	return new(big.Int).Exp(big.NewInt(10), big.NewInt(int64(k)), nil)
}

// slowInteger returns r if it is an integer from -MaxDecimal to MaxDecimal.
func slowInteger(r *big.Rat) (int64, api.Errno) {
	if !r.IsInt() || r.Num().CmpAbs(big.NewInt(maxDecimal)) > 0 {
		return 0, api.ErrOverflow
	}
	return r.Num().Int64(), api.OK
}

// slowRescale computes with fractions of any size; n and both scales must be in their ranges.
func slowRescale(n int64, from, to int) (int64, api.Errno) {
	r := new(big.Rat).SetFrac(big.NewInt(n), powerOfTen(from))
	return slowInteger(r.Mul(r, new(big.Rat).SetInt(powerOfTen(to))))
}

var (
	textForm     = regexp.MustCompile(`^-?(0|[1-9][0-9]*)(\.([0-9]+))?\z`)
	negativeZero = regexp.MustCompile(`^-[0.]*\z`)
)

// slowParse matches the form and computes with fractions of any size; scale must be in its range.
func slowParse(s string, scale int) (int64, api.Errno) {
	parts := textForm.FindStringSubmatch(s)
	if parts == nil || negativeZero.MatchString(s) {
		return 0, api.ErrForm
	}
	if len(parts[3]) > scale {
		return 0, api.ErrOverflow
	}
	r, ok := new(big.Rat).SetString(s)
	if !ok {
		panic("the test itself is wrong: " + s)
	}
	return slowInteger(r.Mul(r, new(big.Rat).SetInt(powerOfTen(scale))))
}

func checkFormat(t *testing.T, n int64, scale int, want string, wantErr api.Errno) {
	t.Helper()
	if s, e := Format(n, scale); s != want || e != wantErr {
		t.Errorf("Format(%d, %d) = %q, %d, want %q, %d", n, scale, s, e, want, wantErr)
	}
}

func checkParse(t *testing.T, s string, scale int, want int64, wantErr api.Errno) {
	t.Helper()
	if n, e := Parse(s, scale); n != want || e != wantErr {
		t.Errorf("Parse(%q, %d) = %d, %d, want %d, %d", s, scale, n, e, want, wantErr)
	}
}

func checkRescale(t *testing.T, n int64, from, to int, want int64, wantErr api.Errno) {
	t.Helper()
	if got, e := Rescale(n, from, to); got != want || e != wantErr {
		t.Errorf("Rescale(%d, %d, %d) = %d, %d, want %d, %d", n, from, to, got, e, want, wantErr)
	}
}

// checkText checks that Format leads from n to s, and Parse back.
func checkText(t *testing.T, n int64, scale int, s string) {
	t.Helper()
	checkFormat(t, n, scale, s, api.OK)
	checkParse(t, s, scale, n, api.OK)
}

// Promises 5.1 and 5.2, and the examples of the chapter.
func TestKnownTexts(t *testing.T) {
	for _, q := range []struct {
		n     int64
		scale int
		s     string
	}{
		{-105, 2, "-1.05"},
		{105, 2, "1.05"},
		{150, 2, "1.50"},
		{0, 0, "0"},
		{0, 1, "0.0"},
		{0, 18, "0.000000000000000000"},
		{7, 0, "7"},
		{-7, 0, "-7"},
		{10, 0, "10"},
		{100, 2, "1.00"},
		{100, 3, "0.100"},
		{1, 1, "0.1"},
		{-1, 1, "-0.1"},
		{-9, 2, "-0.09"},
		{10, 1, "1.0"},
		{1234567890, 5, "12345.67890"},
		{-1200, 3, "-1.200"},
		{999999999999999999, 0, "999999999999999999"},
		{-999999999999999999, 0, "-999999999999999999"},
		{999999999999999999, 1, "99999999999999999.9"},
		{-999999999999999999, 17, "-9.99999999999999999"},
		{999999999999999999, 18, "0.999999999999999999"},
		{-999999999999999999, 18, "-0.999999999999999999"},
		{-1, 18, "-0.000000000000000001"},
		{100000000000000000, 17, "1.00000000000000000"},
		{100000000000000000, 18, "0.100000000000000000"},
	} {
		checkText(t, q.n, q.scale, q.s)
	}
}

// Promises 5.1 and 5.2, and the consequence, with every scale.
func TestTextsOfManyNumbers(t *testing.T) {
	numbers := edgeNumbers()
	for n := int64(-2000); n <= 2000; n++ {
		numbers = append(numbers, n)
	}
	r := rand.New(rand.NewSource(1))
	for range 5000 {
		numbers = append(numbers, randomNumber(r))
	}
	for _, n := range numbers {
		for scale := 0; scale <= api.MaxScale; scale++ {
			checkText(t, n, scale, slowFormat(n, scale))
		}
	}
}

// Promise 5.1.
func TestFormatRefusesNumbersAndScalesOutOfRange(t *testing.T) {
	for _, n := range numbersOutOfRange {
		for scale := 0; scale <= api.MaxScale; scale++ {
			checkFormat(t, n, scale, "", api.ErrRange)
		}
	}
	for _, scale := range scalesOutOfRange {
		for _, n := range append(edgeNumbers(), numbersOutOfRange...) {
			checkFormat(t, n, scale, "", api.ErrRange)
		}
	}
}

// Promise 5.2: missing digits after the point are 0.
func TestParseAddsMissingDigits(t *testing.T) {
	for _, q := range []struct {
		s     string
		scale int
		want  int64
	}{
		{"1.5", 2, 150},
		{"1.5", 1, 15},
		{"1.5", 17, 150000000000000000},
		{"1", 2, 100},
		{"-12", 3, -12000},
		{"-0.5", 3, -500},
		{"0", 18, 0},
		{"0.0", 18, 0},
		{"0.00", 2, 0},
		{"0.10", 3, 100},
		{"10", 1, 100},
		{"9", 17, 900000000000000000},
		{"-9.9", 17, -990000000000000000},
		{"0.9", 18, 900000000000000000},
		{"99999999999999999", 1, 999999999999999990},
		{"-99999999999999999", 1, -999999999999999990},
	} {
		checkParse(t, q.s, q.scale, q.want, api.OK)
	}
}

// Promise 5.2: texts of the right form that do not have the length that Format gives them.
func TestParseOfShortenedTexts(t *testing.T) {
	for _, n := range edgeNumbers() {
		for scale := 1; scale <= api.MaxScale; scale++ {
			s := slowFormat(n, scale)
			for s[len(s)-1] == '0' && s[len(s)-2] != '.' {
				s = s[:len(s)-1]
				checkParse(t, s, scale, n, api.OK)
			}
			if strings.HasSuffix(s, ".0") {
				checkParse(t, s[:len(s)-2], scale, n, api.OK)
			}
		}
	}
}

// Promise 5.2: the number of digits after the point counts, even of zeros.
func TestParseRefusesTooManyDigitsAfterThePoint(t *testing.T) {
	for _, q := range []struct {
		s     string
		scale int
	}{
		{"1.555", 2}, {"1.50", 1}, {"1.0", 0}, {"0.0", 0}, {"0.5", 0}, {"-0.5", 0}, {"-1.000", 2}, {"-0.001", 2}, {"0.000", 2},
		{"0.0000000000000000000", 18}, {"0.0000000000000000001", 18}, {"-1.0000000000000000000", 18}, {"12345678901234567890.5", 0},
		{"0." + strings.Repeat("0", 1000), 18}, {"0." + strings.Repeat("9", 1000), 18}, {"7." + strings.Repeat("0", 1<<16), 17},
	} {
		checkParse(t, q.s, q.scale, 0, api.ErrOverflow)
	}
	for scale := 0; scale <= api.MaxScale; scale++ {
		for more := 1; more <= 40; more++ {
			checkParse(t, "0."+strings.Repeat("0", scale+more), scale, 0, api.ErrOverflow)
			checkParse(t, "-1."+strings.Repeat("0", scale+more), scale, 0, api.ErrOverflow)
		}
	}
}

// Promise 5.2: n is out of its range, with its own digits or with the zeros that are missing.
func TestParseRefusesNumbersOutOfRange(t *testing.T) {
	for _, q := range []struct {
		s     string
		scale int
	}{
		{"1000000000000000000", 0},
		{"-1000000000000000000", 0},
		{"1000000000000000001", 0},
		{"9223372036854775807", 0},
		{"-9223372036854775808", 0},
		{"9223372036854775808", 0},
		{"18446744073709551616", 0},
		{"18446744073709551617", 0},
		{"-18446744073709551617", 0},
		{"100000000000000000000000", 0},
		{"340282366920938463463374607431768211457", 0},
		{"100000000000000000.0", 1},
		{"100000000000000000", 1},
		{"-100000000000000000", 1},
		{"999999999999999999", 1},
		{"10", 17},
		{"1", 18},
		{"-1", 18},
		{"1.0", 18},
		{"1.000000000000000000", 18},
		{"19", 18},
		{"92233720368547758.08", 2},
		{"184467440737095516.16", 2},
		{"18.446744073709551617", 18},
		{"-18.446744073709551617", 18},
		{strings.Repeat("9", 1<<16), 0},
		{"-" + strings.Repeat("9", 1000) + ".5", 1},
		{"1" + strings.Repeat("0", 1000), 18},
	} {
		checkParse(t, q.s, q.scale, 0, api.ErrOverflow)
	}
}

// Promise 5.2: all texts with up to six of these bytes (the last three of them only at the end), with
// several scales.
func TestParseOfAllShortTexts(t *testing.T) {
	const bytes = "-.019+ x"
	var try func(s string)
	try = func(s string) {
		for _, scale := range []int{0, 1, 3, 16, 18} {
			want, wantErr := slowParse(s, scale)
			if n, e := Parse(s, scale); n != want || e != wantErr {
				checkParse(t, s, scale, want, wantErr)
			}
		}
		if len(s) < 6 && strings.Trim(s, "-.019") == "" { // another byte is followed by nothing
			for i := range len(bytes) {
				try(s + bytes[i:i+1])
			}
		}
	}
	try("")
}

// Promise 5.2: each byte in each place.
func TestParseWithEachByteInEachPlace(t *testing.T) {
	for _, s := range []string{"-12.34", "0.5", "10", "-7", "0", "-0.50"} {
		for place := range len(s) {
			for b := range 256 {
				changed := s[:place] + string([]byte{byte(b)}) + s[place+1:]
				inserted := s[:place] + string([]byte{byte(b)}) + s[place:]
				for _, other := range []string{changed, inserted, s + string([]byte{byte(b)})} {
					want, wantErr := slowParse(other, 3)
					checkParse(t, other, 3, want, wantErr)
				}
			}
		}
	}
}

// Promise 5.2.
func TestParseRefusesOtherForms(t *testing.T) {
	for _, s := range []string{
		"", "-", ".", "-.", "+", "+1", "--1", "-+1", "+-1", "1-", "1-1", "-1-", "−1", "- 1",
		"1.", "-1.", "0.", ".5", "-.5", "1..5", "1.5.5", "1.5.", ".1.5", "1.-5", "1.+5", "1,5", "1. 5", "1 .5",
		"00", "01", "-01", "00.5", "-00.5", "007", "000", "01.5", "0" + strings.Repeat("0", 1000),
		"-0", "-0.0", "-0.00", "-0." + strings.Repeat("0", 18), "-0." + strings.Repeat("0", 1000), "-00",
		" 1", "1 ", "\t1", "1\n", "1.5\n", "\x001", "1\x00", "1.5\x00",
		"1e2", "1E2", "1.5e1", "0x1", "0b1", "0o7", "1_000", "1'000", "1,000", "1/2", "1%", "1L",
		"inf", "-inf", "Inf", "nan", "NaN", "null", "true", "x",
		"１", "١", "1.٥", "²", "½", "1．5", "1·5", "\xff", "1\xff", "1.\xff",
		strings.Repeat("9", 1000) + "x", strings.Repeat("-", 1000), strings.Repeat(".", 1000),
	} {
		for scale := 0; scale <= api.MaxScale; scale++ {
			checkParse(t, s, scale, 0, api.ErrForm)
		}
	}
}

// Promise 5.2: first the scale, then the form, then the number.
func TestParseReportsErrorsInOrder(t *testing.T) {
	for _, scale := range scalesOutOfRange {
		for _, s := range []string{"", "0", "1.5", "-12", "x", "-0", "01", "1.", "1.5555555555555555555555", "1000000000000000000", "100000000000000000000000", "-99999999999999999999x"} {
			checkParse(t, s, scale, 0, api.ErrRange)
		}
	}
	for _, s := range []string{"1000000000000000000x", "01000000000000000000", "100000000000000000000000.", "1.5555x", "1.5555.5", "-0.0000", "99999999999999999999.5-", "--1000000000000000000", "00.0000"} {
		checkParse(t, s, 2, 0, api.ErrForm)
	}
}

// Promise 5.3, and the examples of the chapter.
func TestRescaleOfKnownNumbers(t *testing.T) {
	for _, q := range []struct {
		n        int64
		from, to int
		want     int64
		wantErr  api.Errno
	}{
		{150, 2, 1, 15, api.OK},
		{155, 2, 1, 0, api.ErrOverflow},
		{150, 2, 0, 0, api.ErrOverflow},
		{100, 2, 0, 1, api.OK},
		{15, 1, 2, 150, api.OK},
		{-30, 1, 0, -3, api.OK},
		{-35, 1, 0, 0, api.ErrOverflow},
		{-1, 18, 17, 0, api.ErrOverflow},
		{0, 18, 0, 0, api.OK},
		{0, 0, 18, 0, api.OK},
		{1, 0, 17, 100000000000000000, api.OK},
		{1, 0, 18, 0, api.ErrOverflow},
		{-1, 0, 18, 0, api.ErrOverflow},
		{9, 0, 17, 900000000000000000, api.OK},
		{10, 0, 17, 0, api.ErrOverflow},
		{-100000000000000000, 17, 0, -1, api.OK},
		{100000000000000000, 18, 0, 0, api.ErrOverflow},
		{99999999999999999, 0, 1, 999999999999999990, api.OK},
		{-99999999999999999, 0, 1, -999999999999999990, api.OK},
		{100000000000000000, 0, 1, 0, api.ErrOverflow},
		{-100000000000000000, 0, 1, 0, api.ErrOverflow},
		{999999999999999999, 0, 1, 0, api.ErrOverflow},
		{-999999999999999999, 17, 18, 0, api.ErrOverflow},
		{999999999999999999, 18, 18, 999999999999999999, api.OK},
		{-999999999999999999, 0, 0, -999999999999999999, api.OK},
		{999999999999999999, 18, 17, 0, api.ErrOverflow},
		{999999999999999990, 18, 17, 99999999999999999, api.OK},
	} {
		checkRescale(t, q.n, q.from, q.to, q.want, q.wantErr)
	}
}

// Promise 5.3: between all scales. What fits can be rescaled back.
func TestRescaleBetweenAllScales(t *testing.T) {
	numbers := edgeNumbers()
	r := rand.New(rand.NewSource(2))
	for range 200 {
		numbers = append(numbers, randomNumber(r))
	}
	for _, n := range numbers {
		for from := 0; from <= api.MaxScale; from++ {
			for to := 0; to <= api.MaxScale; to++ {
				want, wantErr := slowRescale(n, from, to)
				checkRescale(t, n, from, to, want, wantErr)
				if wantErr == api.OK {
					checkRescale(t, want, to, from, n, api.OK)
				}
			}
		}
	}
}

// Promise 5.3: ErrRange comes before ErrOverflow, and also where both scales are equal or n is 0.
func TestRescaleRefusesNumbersAndScalesOutOfRange(t *testing.T) {
	for _, n := range numbersOutOfRange {
		for from := 0; from <= api.MaxScale; from++ {
			for to := 0; to <= api.MaxScale; to++ {
				checkRescale(t, n, from, to, 0, api.ErrRange)
			}
		}
	}
	for _, scale := range scalesOutOfRange {
		for _, n := range append(edgeNumbers(), numbersOutOfRange...) {
			for _, other := range []int{0, 1, 17, 18, scale} {
				checkRescale(t, n, scale, other, 0, api.ErrRange)
				checkRescale(t, n, other, scale, 0, api.ErrRange)
			}
		}
	}
}
