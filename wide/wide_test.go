package wide

import (
	"math"
	"math/big"
	"math/rand"
	"regexp"
	"strings"
	"testing"

	"micropart/api"
)

const (
	leastText    = "-170141183460469231731687303715884105728"
	greatestText = "170141183460469231731687303715884105727"
)

// power returns base^k.
func power(base, k int) *big.Int {
	return new(big.Int).Exp(big.NewInt(int64(base)), big.NewInt(int64(k)), nil)
}

// bigOf returns the number that a Wide stands for.
func bigOf(a api.Wide) *big.Int {
	n := new(big.Int).Mul(big.NewInt(a.Hi), power(2, 64))
	return n.Add(n, new(big.Int).SetUint64(a.Lo))
}

// wideOf returns the Wide of a number modulo 2^128.
func wideOf(n *big.Int) api.Wide {
	hi, lo := new(big.Int).DivMod(n, power(2, 64), new(big.Int))
	hi.Mod(hi, power(2, 64))
	return api.Wide{Hi: int64(hi.Uint64()), Lo: lo.Uint64()}
}

// fits reports whether n is from -2^127 to 2^127 - 1.
func fits(n *big.Int) bool {
	limit := power(2, 127)
	return n.Cmp(limit) < 0 && n.Cmp(new(big.Int).Neg(limit)) >= 0
}

// bigText returns the number with a text of the right form.
func bigText(s string) *big.Int {
	n, ok := new(big.Int).SetString(s, 10)
	if !ok {
		panic("the test itself is wrong: " + s)
	}
	return n
}

// edgeHalves returns values of Lo, and without their sign of Hi, between which carries and signs change.
func edgeHalves() []uint64 {
	return []uint64{
		0, 1, 2, 5, 9, 10, 11, 1<<31 - 1, 1 << 31, 1<<32 - 1, 1 << 32, 1<<32 + 1,
		1<<62 - 1, 1 << 62, 1<<63 - 1, 1 << 63, 1<<63 + 1, math.MaxUint64 - 10, math.MaxUint64 - 9, math.MaxUint64 - 1, math.MaxUint64,
	}
}

// pairedNumbers returns numbers few enough to test all pairs of them.
func pairedNumbers() []api.Wide {
	numbers := []api.Wide{}
	for _, hi := range edgeHalves() {
		for _, lo := range edgeHalves() {
			numbers = append(numbers, api.Wide{Hi: int64(hi), Lo: lo})
		}
	}
	return numbers
}

// randomNumber returns a number with a random count of bits, of which some are the same for a long way.
func randomNumber(r *rand.Rand) api.Wide {
	a := api.Wide{Hi: int64(r.Uint64()), Lo: r.Uint64()}
	switch r.Intn(4) {
	case 0:
		a.Lo = edgeHalves()[r.Intn(len(edgeHalves()))]
	case 1:
		a.Hi = int64(edgeHalves()[r.Intn(len(edgeHalves()))])
	}
	return wideOf(new(big.Int).Rsh(bigOf(a), uint(r.Intn(128))))
}

// sampleNumbers returns the numbers around all powers of two and of ten with both signs, and many others.
func sampleNumbers() []api.Wide {
	numbers := pairedNumbers()
	near := func(center *big.Int) {
		for d := int64(-3); d <= 3; d++ {
			n := new(big.Int).Add(center, big.NewInt(d))
			numbers = append(numbers, wideOf(n), wideOf(n.Neg(n)))
		}
	}
	for k := range 128 {
		near(power(2, k))
	}
	for k := range 39 {
		for first := int64(1); first <= 9; first++ {
			n := new(big.Int).Mul(power(10, k), big.NewInt(first))
			if fits(n) {
				near(n)
			}
		}
	}
	r := rand.New(rand.NewSource(1))
	for range 5000 {
		numbers = append(numbers, randomNumber(r))
	}
	return numbers
}

var textForm = regexp.MustCompile(`^(0|-?[1-9][0-9]*)\z`)

// slowParse matches the form and computes with integers of any size.
func slowParse(s string) (api.Wide, api.Errno) {
	if len(s) > 40 || !textForm.MatchString(s) {
		return api.Wide{}, api.ErrForm
	}
	n := bigText(s)
	if !fits(n) {
		return api.Wide{}, api.ErrOverflow
	}
	return wideOf(n), api.OK
}

func checkWide(t *testing.T, name string, got, want api.Wide) {
	t.Helper()
	if got != want {
		t.Errorf("%s = %v, want %v", name, got, want)
	}
}

func checkAdd(t *testing.T, a, b api.Wide) {
	t.Helper()
	want := wideOf(new(big.Int).Add(bigOf(a), bigOf(b)))
	if got := Add(a, b); got != want {
		t.Errorf("Add(%v, %v) = %v, want %v", a, b, got, want)
	}
}

func checkCompare(t *testing.T, a, b api.Wide, want int) {
	t.Helper()
	if got := Compare(a, b); got != want {
		t.Errorf("Compare(%v, %v) = %d, want %d", a, b, got, want)
	}
}

func checkInt(t *testing.T, a api.Wide, want int64, wantOk bool) {
	t.Helper()
	if n, ok := Int(a); n != want || ok != wantOk {
		t.Errorf("Int(%v) = %d, %t, want %d, %t", a, n, ok, want, wantOk)
	}
}

func checkFormat(t *testing.T, a api.Wide, want string) {
	t.Helper()
	if s := Format(a); s != want {
		t.Errorf("Format(%v) = %q, want %q", a, s, want)
	}
}

func checkParse(t *testing.T, s string, want api.Wide, wantErr api.Errno) {
	t.Helper()
	if a, e := Parse(s); a != want || e != wantErr {
		t.Errorf("Parse(%q) = %v, %d, want %v, %d", s, a, e, want, wantErr)
	}
}

// checkRefused checks that Parse returns this error for s.
func checkRefused(t *testing.T, s string, want api.Errno) {
	t.Helper()
	checkParse(t, s, api.Wide{}, want)
}

// Promise 13.1, with the numbers of the definition written out.
func TestOfKnownNumbers(t *testing.T) {
	for n, want := range map[int64]api.Wide{
		0:                 {},
		1:                 {Lo: 1},
		-1:                {Hi: -1, Lo: math.MaxUint64},
		-2:                {Hi: -1, Lo: math.MaxUint64 - 1},
		300:               {Lo: 300},
		1 << 32:           {Lo: 1 << 32},
		-1 << 32:          {Hi: -1, Lo: math.MaxUint64 - 1<<32 + 1},
		math.MaxInt64:     {Lo: 1<<63 - 1},
		math.MinInt64:     {Hi: -1, Lo: 1 << 63},
		math.MinInt64 + 1: {Hi: -1, Lo: 1<<63 + 1},
	} {
		checkWide(t, "Of", Of(n), want)
	}
}

// Promise 13.1: Of, and Int of what it returns.
func TestOfAndIntOfManyNumbers(t *testing.T) {
	for _, a := range sampleNumbers() {
		for _, n := range []int64{a.Hi, int64(a.Lo)} {
			checkWide(t, "Of", Of(n), wideOf(big.NewInt(n)))
			checkInt(t, Of(n), n, true)
		}
	}
}

// Promise 13.1, and the examples of the chapter.
func TestAddOfKnownNumbers(t *testing.T) {
	least, greatest := api.Wide{Hi: math.MinInt64}, api.Wide{Hi: math.MaxInt64, Lo: math.MaxUint64}
	for _, q := range []struct{ a, b, want api.Wide }{
		{Of(math.MaxInt64), Of(1), api.Wide{Lo: 1 << 63}},
		{Of(math.MinInt64), Of(-1), api.Wide{Hi: -1, Lo: 1<<63 - 1}},
		{Of(2), Of(3), Of(5)},
		{Of(-2), Of(-3), Of(-5)},
		{Of(-1), Of(1), Of(0)},
		{Of(1), Of(-1), Of(0)},
		{Of(5), Of(-7), Of(-2)},
		{Of(0), Of(0), Of(0)},
		{api.Wide{Lo: math.MaxUint64}, Of(1), api.Wide{Hi: 1}},
		{api.Wide{Lo: math.MaxUint64}, api.Wide{Lo: math.MaxUint64}, api.Wide{Hi: 1, Lo: math.MaxUint64 - 1}},
		{api.Wide{Hi: 1}, Of(-1), api.Wide{Lo: math.MaxUint64}},
		{api.Wide{Hi: 1, Lo: 2}, api.Wide{Hi: 10, Lo: 20}, api.Wide{Hi: 11, Lo: 22}},
		{greatest, Of(1), least},
		{least, Of(-1), greatest},
		{least, least, Of(0)},
		{greatest, greatest, Of(-2)},
		{greatest, least, Of(-1)},
	} {
		checkWide(t, "Add", Add(q.a, q.b), q.want)
		checkWide(t, "Add the other way round", Add(q.b, q.a), q.want)
	}
}

// Promise 13.1.
func TestAddOfManyNumbers(t *testing.T) {
	numbers := pairedNumbers()
	for _, a := range numbers {
		for _, b := range numbers {
			checkAdd(t, a, b)
		}
	}
	r := rand.New(rand.NewSource(2))
	for range 20000 {
		checkAdd(t, randomNumber(r), randomNumber(r))
	}
}

// Promise 13.1: the least number is its own negated number modulo 2^128.
func TestNegOfKnownNumbers(t *testing.T) {
	for _, q := range []struct{ a, want api.Wide }{
		{Of(0), Of(0)},
		{Of(1), Of(-1)},
		{Of(-1), Of(1)},
		{Of(-300), Of(300)},
		{Of(math.MinInt64), api.Wide{Lo: 1 << 63}},
		{api.Wide{Lo: 1 << 63}, Of(math.MinInt64)},
		{api.Wide{Hi: 1}, api.Wide{Hi: -1}},
		{api.Wide{Hi: 1, Lo: 1}, api.Wide{Hi: -2, Lo: math.MaxUint64}},
		{api.Wide{Hi: math.MinInt64}, api.Wide{Hi: math.MinInt64}},
		{api.Wide{Hi: math.MinInt64, Lo: 1}, api.Wide{Hi: math.MaxInt64, Lo: math.MaxUint64}},
		{api.Wide{Hi: math.MaxInt64, Lo: math.MaxUint64}, api.Wide{Hi: math.MinInt64, Lo: 1}},
	} {
		checkWide(t, "Neg", Neg(q.a), q.want)
	}
}

// Promise 13.1.
func TestNegOfManyNumbers(t *testing.T) {
	for _, a := range sampleNumbers() {
		want := wideOf(new(big.Int).Neg(bigOf(a)))
		if got := Neg(a); got != want {
			t.Errorf("Neg(%v) = %v, want %v", a, got, want)
		}
		checkWide(t, "Add of a number and its Neg", Add(a, Neg(a)), Of(0))
	}
}

// Promise 13.1: in ascending order, numbers of both signs and on both sides of 2^63 and 2^64.
func TestCompareOfKnownNumbers(t *testing.T) {
	ascending := []api.Wide{
		{Hi: math.MinInt64}, {Hi: math.MinInt64, Lo: 1}, {Hi: math.MinInt64, Lo: math.MaxUint64}, {Hi: math.MinInt64 + 1},
		{Hi: -2, Lo: math.MaxUint64}, {Hi: -1}, {Hi: -1, Lo: 1<<63 - 1}, Of(math.MinInt64), Of(-2), Of(-1),
		Of(0), Of(1), Of(2), Of(math.MaxInt64), {Lo: 1 << 63}, {Lo: math.MaxUint64}, {Hi: 1}, {Hi: 1, Lo: 1}, {Hi: 2},
		{Hi: math.MaxInt64}, {Hi: math.MaxInt64, Lo: math.MaxUint64},
	}
	for i, a := range ascending {
		for j, b := range ascending {
			want := 0
			if i < j {
				want = -1
			}
			if i > j {
				want = 1
			}
			checkCompare(t, a, b, want)
		}
	}
}

// Promise 13.1.
func TestCompareOfManyNumbers(t *testing.T) {
	numbers := pairedNumbers()
	integers := []*big.Int{}
	for _, a := range numbers {
		integers = append(integers, bigOf(a))
	}
	for i, a := range numbers {
		for j, b := range numbers {
			checkCompare(t, a, b, integers[i].Cmp(integers[j]))
		}
	}
	r := rand.New(rand.NewSource(3))
	for range 20000 {
		a, b := randomNumber(r), randomNumber(r)
		checkCompare(t, a, b, bigOf(a).Cmp(bigOf(b)))
		checkCompare(t, a, a, 0)
	}
}

// Promise 13.1, and an example of the chapter: the number is 0 if there is no int64.
func TestIntOfKnownNumbers(t *testing.T) {
	for _, q := range []struct {
		a      api.Wide
		want   int64
		wantOk bool
	}{
		{Add(Of(math.MaxInt64), Of(1)), 0, false},
		{Add(Of(math.MinInt64), Of(-1)), 0, false},
		{Add(Of(math.MaxInt64), Of(0)), math.MaxInt64, true},
		{api.Wide{Hi: -1, Lo: 1 << 63}, math.MinInt64, true},
		{api.Wide{}, 0, true},
		{api.Wide{Hi: -1, Lo: math.MaxUint64}, -1, true},
		{api.Wide{Lo: math.MaxUint64}, 0, false},
		{api.Wide{Hi: -1}, 0, false},
		{api.Wide{Hi: -1, Lo: 5}, 0, false},
		{api.Wide{Hi: 1}, 0, false},
		{api.Wide{Hi: 1, Lo: 5}, 0, false},
		{api.Wide{Hi: -2, Lo: math.MaxUint64}, 0, false},
		{api.Wide{Hi: math.MinInt64}, 0, false},
		{api.Wide{Hi: math.MaxInt64, Lo: math.MaxUint64}, 0, false},
	} {
		checkInt(t, q.a, q.want, q.wantOk)
	}
}

// Promise 13.1.
func TestIntOfManyNumbers(t *testing.T) {
	for _, a := range sampleNumbers() {
		n := bigOf(a)
		if n.IsInt64() {
			checkInt(t, a, n.Int64(), true)
		} else {
			checkInt(t, a, 0, false)
		}
	}
}

// Promise 13.2, and an example of the chapter.
func TestKnownTexts(t *testing.T) {
	for _, q := range []struct {
		a api.Wide
		s string
	}{
		{Add(Of(math.MaxInt64), Of(1)), "9223372036854775808"},
		{Of(0), "0"},
		{Of(7), "7"},
		{Of(-7), "-7"},
		{Of(10), "10"},
		{Of(-10), "-10"},
		{Of(100200300), "100200300"},
		{Of(-1234567890), "-1234567890"},
		{Of(math.MaxInt64), "9223372036854775807"},
		{Of(math.MinInt64), "-9223372036854775808"},
		{api.Wide{Hi: -1, Lo: 1<<63 - 1}, "-9223372036854775809"},
		{api.Wide{Lo: math.MaxUint64}, "18446744073709551615"},
		{api.Wide{Hi: 1}, "18446744073709551616"},
		{api.Wide{Hi: -1}, "-18446744073709551616"},
		{api.Wide{Hi: -2, Lo: math.MaxUint64}, "-18446744073709551617"},
		{api.Wide{Hi: 5, Lo: 7766279631452241920}, "100000000000000000000"},
		{api.Wide{Hi: math.MaxInt64, Lo: math.MaxUint64}, greatestText},
		{api.Wide{Hi: math.MaxInt64, Lo: math.MaxUint64 - 1}, "170141183460469231731687303715884105726"},
		{api.Wide{Hi: math.MinInt64}, leastText},
		{api.Wide{Hi: math.MinInt64, Lo: 1}, "-170141183460469231731687303715884105727"},
	} {
		checkFormat(t, q.a, q.s)
		checkParse(t, q.s, q.a, api.OK)
	}
}

// Promise 13.2, and the consequence.
func TestTextsOfManyNumbers(t *testing.T) {
	numbers := sampleNumbers()
	for n := int64(-2000); n <= 2000; n++ {
		numbers = append(numbers, Of(n))
	}
	for _, a := range numbers {
		checkFormat(t, a, bigOf(a).String())
		checkParse(t, Format(a), a, api.OK)
	}
}

// Promise 13.2: numbers close to the limits, of the same length as these, and longer ones.
func TestParseRefusesNumbersThatAreNotRepresentable(t *testing.T) {
	for _, s := range []string{
		"170141183460469231731687303715884105728",
		"170141183460469231731687303715884105729",
		"-170141183460469231731687303715884105729",
		"-170141183460469231731687303715884105730",
		"170141183460469231731687303715884105730",
		"170141183460469231740910675752738881536", // 2^127 + 2^63
		"200000000000000000000000000000000000000",
		"-200000000000000000000000000000000000000",
		"340282366920938463463374607431768211455",
		"340282366920938463463374607431768211456",
		"340282366920938463463374607431768211457",
		"-340282366920938463463374607431768211457",
		"999999999999999999999999999999999999999",
		"-999999999999999999999999999999999999999",
		"1111111111111111111111111111111111111111",
		"1000000000000000000000000000000000000000",
		"1701411834604692317316873037158841057270",
		"3402823669209384634633746074317682114560",
		"9999999999999999999999999999999999999999",
	} {
		checkRefused(t, s, api.ErrOverflow)
	}
	for _, s := range []string{greatestText, leastText} {
		limit := bigText(s)
		for d := int64(-1000); d <= 1000; d++ {
			n := new(big.Int).Add(limit, big.NewInt(d))
			want, wantErr := slowParse(n.String())
			checkParse(t, n.String(), want, wantErr)
		}
	}
}

// Promise 13.2: each digit of the numbers at the limits changed, and numbers of their length.
func TestParseWithEachDigitOfTheLimits(t *testing.T) {
	for _, s := range []string{greatestText, leastText, "-" + greatestText, leastText[1:]} {
		for place := range len(s) {
			for b := range 256 {
				changed := s[:place] + string([]byte{byte(b)}) + s[place+1:]
				want, wantErr := slowParse(changed)
				checkParse(t, changed, want, wantErr)
			}
		}
	}
	r := rand.New(rand.NewSource(4))
	for range 20000 {
		digits := make([]byte, 36+r.Intn(6))
		for i := range digits {
			digits[i] = byte('0' + r.Intn(10))
		}
		for _, s := range []string{string(digits), "-" + string(digits)} {
			want, wantErr := slowParse(s)
			checkParse(t, s, want, wantErr)
		}
	}
}

// Promise 13.2: texts with more than 40 bytes have no form, whatever they are, and those with 40 do.
func TestParseRefusesLongTexts(t *testing.T) {
	for n := 40; n <= 140; n++ {
		ones, want := strings.Repeat("1", n), api.ErrForm
		if n == 40 {
			want = api.ErrOverflow
		}
		checkRefused(t, ones, want)
		checkRefused(t, "-"+ones, api.ErrForm)
	}
	for _, s := range []string{
		leastText + "0", greatestText + "00", "-" + greatestText + "0", "-" + leastText, strings.Repeat("0", 41),
		strings.Repeat("0", 40) + "1", "1" + strings.Repeat("0", 40), "-1" + strings.Repeat("0", 39), strings.Repeat("9", 1<<20), strings.Repeat("-", 41),
	} {
		checkRefused(t, s, api.ErrForm)
	}
	for _, s := range []string{leastText, "-" + strings.Repeat("1", 39)} {
		checkParse(t, s, wideOf(bigText(s)), api.OK)
	}
}

// Promise 13.2: all texts with up to five of these bytes.
func TestParseOfAllShortTexts(t *testing.T) {
	const bytes = "-019+ x."
	var try func(s string)
	try = func(s string) {
		want, wantErr := slowParse(s)
		checkParse(t, s, want, wantErr)
		if len(s) < 5 {
			for i := range len(bytes) {
				try(s + bytes[i:i+1])
			}
		}
	}
	try("")
}

// Promise 13.2: each byte in each place.
func TestParseWithEachByteInEachPlace(t *testing.T) {
	for _, s := range []string{"", "0", "7", "-7", "10", "-12", "18446744073709551616", greatestText[1:]} {
		for place := range len(s) + 1 {
			for b := range 256 {
				inserted := s[:place] + string([]byte{byte(b)}) + s[place:]
				want, wantErr := slowParse(inserted)
				checkParse(t, inserted, want, wantErr)
			}
		}
	}
}

// Promise 13.2: ErrForm comes before ErrOverflow, so these texts have no form though they are long.
func TestParseRefusesOtherForms(t *testing.T) {
	for _, s := range []string{
		"", "-", "+", "-0", "+0", "+1", "--1", "-+1", "+-1", "1-", "1-1", "-1-", "−1", "- 1", "-00",
		"00", "01", "-01", "007", "000", "00000000000000000000000000000000000000", "0170141183460469231731687303715884105727",
		"0340282366920938463463374607431768211457", "-0170141183460469231731687303715884105728", "-034028236692093846346337460743176821145",
		" 1", "1 ", "\t1", "1\n", "\x001", "1\x00", "1.", "1.0", ".5", "1e2", "1E2", "0x1", "0b1", "0o7", "1_000", "1,000", "1'000", "1/2",
		"inf", "nan", "null", "true", "x", "1x", "1:", "/1", "１", "١", "²", "½", "\xff", "1\xff",
		"170141183460469231731687303715884105728x", "99999999999999999999999999999999999999x", "x999999999999999999999999999999999999999",
		"999999999999999999-99999999999999999999", "+170141183460469231731687303715884105728", strings.Repeat("-", 40), strings.Repeat("x", 40),
	} {
		checkRefused(t, s, api.ErrForm)
	}
}
