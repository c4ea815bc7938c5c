package delta

import (
	"math"
	"math/big"
	"math/rand"
	"slices"
	"strings"
	"testing"

	"micropart/api"
	"micropart/varint"
)

// powerOfTwo returns 2^k.
func powerOfTwo(k int) *big.Int { return new(big.Int).Lsh(big.NewInt(1), uint(k)) }

// slowSigned writes a number with sign in groups of seven bits, with integers that cannot overflow.
func slowSigned(n *big.Int) string {
	v := new(big.Int).Mul(n, big.NewInt(2))
	if n.Sign() < 0 {
		v.Neg(v).Sub(v, big.NewInt(1))
	}
	groups := []byte{}
	for v.BitLen() > 7 {
		rest, group := new(big.Int).DivMod(v, big.NewInt(128), new(big.Int))
		groups = append(groups, byte(group.Int64()+128))
		v = rest
	}
	return string(append(groups, byte(v.Int64())))
}

// signed writes a number with sign.
func signed(n int64) string { return slowSigned(big.NewInt(n)) }

// modulo returns n plus that multiple of 2^64 which makes it a number of 64 bits with sign.
func modulo(n *big.Int) *big.Int {
	m := new(big.Int).Add(n, powerOfTwo(63))
	m.Mod(m, powerOfTwo(64))
	return m.Sub(m, powerOfTwo(63))
}

// slowDifference returns b - a modulo 2^64.
func slowDifference(a, b int64) *big.Int {
	return modulo(new(big.Int).Sub(big.NewInt(b), big.NewInt(a)))
}

// slowPack writes numbers of width bits as one great number, whose lowest byte is the first.
func slowPack(l []*big.Int, width int) string {
	total := new(big.Int)
	for i, v := range l {
		total.Add(total, new(big.Int).Lsh(v, uint(i*width)))
	}
	packed := total.FillBytes(make([]byte, (len(l)*width+7)/8))
	slices.Reverse(packed)
	return string(packed)
}

// pack writes numbers of width bits.
func pack(width int, l ...uint64) string {
	numbers := []*big.Int{}
	for _, v := range l {
		numbers = append(numbers, new(big.Int).SetUint64(v))
	}
	return slowPack(numbers, width)
}

// slowBlock writes a block with these differences.
func slowBlock(differences []*big.Int) string {
	least := slices.MinFunc(differences, (*big.Int).Cmp)
	offsets := []*big.Int{}
	width := 0
	for _, d := range differences {
		offset := new(big.Int).Sub(d, least)
		offsets = append(offsets, offset)
		width = max(width, offset.BitLen())
	}
	return slowSigned(least) + string([]byte{byte(width)}) + slowPack(offsets, width)
}

// slowEncode collects 32 differences, and then writes their block.
func slowEncode(l []int64) string {
	if len(l) == 0 || len(l) > 4096 {
		return ""
	}
	var encoding strings.Builder
	encoding.WriteString(signed(l[0]))
	differences := []*big.Int{}
	for i, v := range l[1:] {
		differences = append(differences, slowDifference(l[i], v))
		if len(differences) == 32 || i == len(l)-2 {
			encoding.WriteString(slowBlock(differences))
			differences = nil
		}
	}
	return encoding.String()
}

// slowGet reads a number with sign, and returns what follows it.
func slowGet(s string) (*big.Int, string, api.Errno) {
	v, size, e := varint.Get(s, 0)
	if e != api.OK {
		return nil, "", e
	}
	half, odd := new(big.Int).DivMod(new(big.Int).SetUint64(v), big.NewInt(2), new(big.Int))
	if odd.Sign() != 0 {
		half.Not(half)
	}
	return half, s[size:], api.OK
}

// slowDecode reads the first number, and then block after block.
func slowDecode(s string, n int) ([]int64, api.Errno) {
	if n == 0 && s != "" {
		return nil, api.ErrForm
	}
	if n == 0 {
		return nil, api.OK
	}
	first, s, e := slowGet(s)
	if e != api.OK {
		return nil, e
	}
	l := []int64{first.Int64()}
	for len(l) < n {
		differences, rest, e := slowGetBlock(s, min(32, n-len(l)))
		if e != api.OK {
			return nil, e
		}
		for _, d := range differences {
			sum := new(big.Int).Add(big.NewInt(l[len(l)-1]), d)
			l = append(l, modulo(sum).Int64())
		}
		s = rest
	}
	if s != "" {
		return nil, api.ErrForm
	}
	return l, api.OK
}

// slowGetBlock reads the differences of a block, and returns what follows it.
func slowGetBlock(s string, count int) ([]*big.Int, string, api.Errno) {
	least, s, e := slowGet(s)
	if e != api.OK {
		return nil, "", e
	}
	if s == "" {
		return nil, "", api.ErrShort
	}
	width := int(s[0])
	if width > 64 {
		return nil, "", api.ErrForm
	}
	s = s[1:]
	if len(s)*8 < count*width {
		return nil, "", api.ErrShort
	}
	size := (count*width + 7) / 8
	offsets := slowUnpack(s[:size], count, width)
	differences := []*big.Int{}
	for _, offset := range offsets {
		differences = append(differences, new(big.Int).Add(least, offset))
	}
	for _, d := range differences {
		if d.Cmp(powerOfTwo(63)) >= 0 {
			return nil, "", api.ErrForm
		}
	}
	// Each other fault of a block leads to bytes that are not those of its differences.
	if slowBlock(differences) != slowSigned(least)+string([]byte{byte(width)})+s[:size] {
		return nil, "", api.ErrForm
	}
	return differences, s[size:], api.OK
}

// slowUnpack reads numbers of width bits, bit by bit.
func slowUnpack(s string, count, width int) []*big.Int {
	l := []*big.Int{}
	for i := range count {
		v := new(big.Int)
		for bit := i * width; bit < (i+1)*width; bit++ {
			v.SetBit(v, bit-i*width, uint(s[bit/8]>>(bit%8)%2))
		}
		l = append(l, v)
	}
	return l
}

// sampleValues returns numbers around every power of two, and around their negative ones.
func sampleValues() []int64 {
	values := []int64{0, math.MinInt64, math.MinInt64 + 1, math.MaxInt64}
	for shift := range 63 {
		power := int64(1) << shift
		values = append(values, power-1, power, -power, -power-1)
	}
	return values
}

// randomList returns n numbers that mostly differ by less than 2^digits from the number before plus step.
func randomList(r *rand.Rand, n, digits int, step int64) []int64 {
	values := sampleValues()
	l := make([]int64, n)
	v := values[r.Intn(len(values))]
	for i := range l {
		l[i] = v
		v += step + int64(r.Uint64()>>(64-digits))
		if r.Intn(300) == 0 {
			v = values[r.Intn(len(values))]
		}
	}
	return l
}

// sums returns the list that begins with first and has these differences.
func sums(first int64, differences ...int64) []int64 {
	l := []int64{first}
	for _, d := range differences {
		l = append(l, l[len(l)-1]+d)
	}
	return l
}

// steps returns n numbers with equal differences.
func steps(n int, first, step int64) []int64 {
	return sums(first, slices.Repeat([]int64{step}, n-1)...)
}

// sumsOfOffsets returns the list that begins with first, for the offsets of one block whose least difference is -2^63.
func sumsOfOffsets(first int64, offsets []uint64) []int64 {
	l := []int64{first}
	for _, offset := range offsets {
		l = append(l, l[len(l)-1]+math.MinInt64+int64(offset))
	}
	return l
}

// smallLists calls f with all lists of at most longest elements that are among values.
func smallLists(longest int, values []int64, f func(l []int64)) {
	var extend func(l []int64)
	extend = func(l []int64) {
		f(l)
		if len(l) == longest {
			return
		}
		for _, v := range values {
			extend(append(slices.Clone(l), v))
		}
	}
	extend(nil)
}

func checkEncode(t *testing.T, l []int64, s string) {
	t.Helper()
	before := slices.Clone(l)
	if got := Encode(l); got != s {
		t.Errorf("Encode of %d elements is %x, want %x", len(l), got, s)
	}
	if !slices.Equal(l, before) {
		t.Errorf("Encode changed the %d elements", len(l))
	}
}

func checkDecode(t *testing.T, s string, want []int64) {
	t.Helper()
	if l, e := Decode(s, len(want)); e != api.OK || !slices.Equal(l, want) {
		t.Errorf("Decode(%x, %d) = %v, %d, want %v", s, len(want), l, e, want)
	}
}

// checkList compares Encode and Decode with what is slowly computed for a list.
func checkList(t *testing.T, l []int64) {
	t.Helper()
	s := slowEncode(l)
	checkEncode(t, l, s)
	checkDecode(t, s, l)
}

type errorCase struct {
	name string
	s    string
	n    int
}

func checkErrors(t *testing.T, want api.Errno, cases []errorCase) {
	t.Helper()
	for _, c := range cases {
		if l, e := Decode(c.s, c.n); len(l) != 0 || e != want {
			t.Errorf("%s: Decode(%x, %d) = %d elements, %d, want %d", c.name, c.s, c.n, len(l), e, want)
		}
	}
}

// Promises 11.1 and 11.2, and the example of the chapter.
func TestKnownLists(t *testing.T) {
	nines := strings.Repeat("\xff", 9)
	for _, c := range []struct {
		l []int64
		s string
	}{
		{[]int64{10, 12, 14}, "\x14\x04\x00"}, // the example
		{nil, ""},
		{[]int64{}, ""},
		{[]int64{0}, "\x00"},
		{[]int64{-1}, "\x01"},
		{[]int64{64}, "\x80\x01"},
		{[]int64{math.MaxInt64}, "\xfe" + strings.Repeat("\xff", 8) + "\x01"},
		{[]int64{math.MinInt64}, nines + "\x01"},
		{[]int64{0, 0}, "\x00\x00\x00"},
		{[]int64{7, 7, 7}, "\x0e\x00\x00"},
		{[]int64{3, 2, 1}, "\x06\x01\x00"},
		{[]int64{1, 2, 4}, "\x02\x02\x01\x02"},
		{[]int64{4, 2, 1}, "\x08\x03\x01\x02"},
		{[]int64{0, 1, -1, 4}, "\x00\x03\x03\xc3\x01"}, // differences 1, -2, 5
		{[]int64{math.MaxInt64, math.MinInt64}, "\xfe" + strings.Repeat("\xff", 8) + "\x01\x02\x00"},
		{[]int64{math.MinInt64, math.MaxInt64}, nines + "\x01\x01\x00"},
		{[]int64{0, math.MinInt64, -1}, "\x00" + nines + "\x01\x40" + strings.Repeat("\x00", 8) + strings.Repeat("\xff", 8)},
		{[]int64{-1, math.MaxInt64, math.MinInt64}, "\x01" + nines + "\x01\x40" + strings.Repeat("\x00", 8) + "\x01" + strings.Repeat("\x00", 6) + "\x80"},
		{steps(32, 1, 3), "\x02\x06\x00"},                                     // 31 differences
		{steps(33, 1, 3), "\x02\x06\x00"},                                     // a whole block
		{steps(34, 1, 3), "\x02\x06\x00\x06\x00"},                             // one more
		{steps(65, 1, 3), "\x02\x06\x00\x06\x00"},                             // two whole blocks
		{steps(66, 1, 3), "\x02\x06\x00\x06\x00\x06\x00"},                     // one more
		{append(steps(33, 0, 1), 30), "\x00\x02\x00\x03\x00"},                 // the blocks have a least difference each
		{append(steps(32, 0, 1), 33), "\x00\x02\x01\x00\x00\x00\x80"},         // the greatest offset is the last one of a whole block
		{append(steps(33, 0, 1), 34, 34, 38), "\x00\x02\x00\x00\x03\x02\x01"}, // and a width each
		{steps(api.MaxBatch, 0, -1), "\x00" + strings.Repeat("\x01\x00", 128)},
	} {
		checkEncode(t, c.l, c.s)
		checkDecode(t, c.s, c.l)
	}
}

// The length of a block is an exported name of the chapter.
func TestBlock(t *testing.T) {
	if Block != 32 {
		t.Errorf("Block = %d", Block)
	}
}

// Promises 11.1 and 11.2: all ways in which a few differences can be equal, wrap, or be ordered.
func TestAllShortLists(t *testing.T) {
	lists := map[string][]int64{}
	smallLists(6, []int64{0, -1, 2, 300, math.MinInt64, math.MaxInt64}, func(l []int64) {
		s := slowEncode(l)
		checkEncode(t, l, s)
		checkDecode(t, s, l)
		if other, ok := lists[s]; ok && len(other) == len(l) {
			t.Errorf("%v and %v have the encoding %x", other, l, s)
		}
		lists[s] = l
	})
}

// Promises 11.1 and 11.2: all pairs of numbers of all sizes, and all pairs of differences.
func TestValuesOfAllSizes(t *testing.T) {
	values := sampleValues()
	for _, v := range values {
		checkList(t, []int64{v})
		for _, w := range values {
			checkList(t, []int64{v, w})
			checkList(t, sums(5, v, w))
		}
	}
}

// Promises 11.1 and 11.2: lists that end near the end of a block, or of a batch.
func TestListsOfAllLengths(t *testing.T) {
	r := rand.New(rand.NewSource(111))
	lengths := []int{api.MaxBatch - 33, api.MaxBatch - 32, api.MaxBatch - 31, api.MaxBatch - 1, api.MaxBatch}
	for n := range 300 {
		lengths = append(lengths, n)
	}
	for _, n := range lengths {
		for range 5 {
			checkList(t, randomList(r, n, r.Intn(65), int64(r.Uint64())>>r.Intn(64)))
		}
	}
}

// Promises 11.1 and 11.2: the least and the greatest offset of each width, at all places of blocks of all lengths.
func TestOffsetsOfAllWidths(t *testing.T) {
	r := rand.New(rand.NewSource(112))
	for width := 1; width <= 64; width++ {
		for _, greatest := range []uint64{1 << (width - 1), math.MaxUint64 >> (64 - width)} {
			// With the greatest sum that is permitted, and with another one.
			for _, least := range []int64{int64(math.MaxInt64 - greatest), math.MinInt64} {
				for count := 2; count <= 32; count++ {
					differences := slices.Repeat([]int64{least}, count)
					place := r.Intn(count)
					differences[place] = int64(uint64(least) + greatest)
					checkList(t, sums(r.Int63(), differences...))
					checkList(t, sums(r.Int63(), append(make([]int64, 32), differences...)...))
					differences[(place+1)%count] = int64(uint64(least) + greatest/2)
					differences[(place+count/2)%count] = least
					checkList(t, sums(r.Int63(), differences...))
				}
			}
		}
	}
}

// The consequences: lists with equal differences take few bytes.
func TestEqualDifferencesTakeFewBytes(t *testing.T) {
	for _, step := range []int64{0, 63, -64} {
		for n := 1; n <= api.MaxBatch; n++ {
			l := steps(n, 9, step)
			want := "\x12" + strings.Repeat(signed(step)+"\x00", (n+30)/32)
			checkEncode(t, l, want)
			checkDecode(t, want, l)
		}
	}
}

// Promise 11.1: a list may not have more elements than a batch.
func TestEncodeRefusesMoreThanABatch(t *testing.T) {
	for _, n := range []int{api.MaxBatch + 1, api.MaxBatch + 2, api.MaxBatch + Block, 2 * api.MaxBatch, 1 << 16, 1<<16 + 1} {
		checkEncode(t, make([]int64, n), "")
		checkEncode(t, steps(n, 5, 7), "")
		checkEncode(t, randomList(rand.New(rand.NewSource(113)), n, 64, 0), "")
	}
}

// Promise 11.2: the errors and their order.
func TestDecodeRefusesNumbersOutOfRange(t *testing.T) {
	for _, n := range []int{-1, -2, -api.MaxBatch, math.MinInt, api.MaxBatch + 1, 1 << 32, 1<<32 + 3, math.MaxInt} {
		checkErrors(t, api.ErrRange, []errorCase{
			{"nothing", "", n},
			{"one number", "\x14", n},
			{"three numbers", "\x14\x04\x00", n},
			{"numbers for a batch, and one more", "\x00" + strings.Repeat("\x01\x00", 128), n},
			{"an encoding that ends too early", "\x80", n},
			{"numbers that are too great", strings.Repeat("\xff", 30), n},
		})
	}
}

// Promise 11.2: an empty list has no first number.
func TestDecodeRefusesBytesOfAnEmptyList(t *testing.T) {
	checkDecode(t, "", nil)
	checkErrors(t, api.ErrForm, []errorCase{
		{"0", "\x00", 0},
		{"one number", "\x14", 0},
		{"three numbers", "\x14\x04\x00", 0},
		{"a number that is cut off", "\x80", 0},
		{"a number with too many groups", "\x80\x00", 0},
		{"a number that is too great", strings.Repeat("\xff", 30), 0},
	})
}

// Promise 11.2.
func TestDecodeRefusesAnEncodingThatEndsTooEarly(t *testing.T) {
	whole := "\x02\x06\x00" // 33 elements
	checkErrors(t, api.ErrShort, []errorCase{
		{"nothing", "", 1},
		{"nothing for three", "", 3},
		{"nothing for a batch", "", api.MaxBatch},
		{"within the first number", "\x94", 1},
		{"within the first number of three", "\x94", 3},
		{"nine bytes of the first number", strings.Repeat("\xff", 9), 3},
		{"no block", "\x14", 2},
		{"within the least difference", "\x14\x84", 3},
		{"nine bytes of the least difference", "\x14" + strings.Repeat("\xff", 9), 3},
		{"no width", "\x14\x04", 3},
		{"no offsets", "\x02\x02\x01", 3},
		{"no second block", whole, 34},
		{"no second block for a batch", whole, api.MaxBatch},
		{"within the second least difference", whole + "\x86", 34},
		{"no second width", whole + "\x06", 34},
		{"no second offsets", whole + "\x06\x01", 35},
		{"no third block", whole + "\x06\x00", 66},
		{"the last block of a batch is missing", "\x00" + strings.Repeat("\x01\x00", 127), api.MaxBatch},
	})
}

// Promise 11.2: also if the bytes that are there cannot be those of offsets.
func TestDecodeRefusesOffsetsThatEndTooEarly(t *testing.T) {
	for width := 1; width <= 64; width++ {
		for count := 1; count <= 32; count++ {
			need := (count*width + 7) / 8
			for _, have := range []int{0, need / 2, need - 1} {
				block := "\x04" + string([]byte{byte(width)})
				for _, b := range []string{"\x00", "\xff"} {
					checkErrors(t, api.ErrShort, []errorCase{
						{"first block", "\x14" + block + strings.Repeat(b, have), count + 1},
						{"second block", "\x02\x06\x00" + block + strings.Repeat(b, have), count + 33},
					})
				}
			}
		}
	}
}

// Promise 11.2: the errors of varint.Get, other than ErrShort.
func TestDecodeRefusesNumbersWithoutTheFormOfPut(t *testing.T) {
	tooGreat := strings.Repeat("\xff", 9) + "\x02"
	endless := strings.Repeat("\xff", 10)
	checkErrors(t, api.ErrOverflow, []errorCase{
		{"first number", tooGreat, 1},
		{"first number of three", tooGreat + "\x04\x00", 3},
		{"first number without an end", endless, 1},
		{"least difference", "\x14" + tooGreat + "\x00", 3},
		{"least difference without an end", "\x14" + endless, 3},
		{"second least difference", "\x02\x06\x00" + tooGreat + "\x00", 34},
		{"second least difference without an end", "\x02\x06\x00" + endless, 34},
		{"before the width is found to be missing", "\x14" + tooGreat, 3},
		{"before the width is found to be too great", "\x14" + tooGreat + "\x41", 3},
	})
	checkErrors(t, api.ErrForm, []errorCase{
		{"first number with too many groups", "\x94\x00", 1},
		{"first number with too many groups, and no block", "\x94\x00", 3},
		{"first number 0 with too many groups", "\x80\x00\x04\x00", 3},
		{"least difference with too many groups", "\x14\x84\x00\x00", 3},
		{"least difference with too many groups, and no width", "\x14\x84\x00", 3},
		{"second least difference with too many groups", "\x02\x06\x00\x86\x00\x00", 34},
		{"second least difference with too many groups, and no width", "\x02\x06\x00\x86\x00", 34},
	})
}

// Promise 11.2.
func TestDecodeRefusesAWidthThatIsTooGreat(t *testing.T) {
	for width := 65; width < 256; width++ {
		w := string([]byte{byte(width)})
		zeros := strings.Repeat("\x00", 32*width)
		checkErrors(t, api.ErrForm, []errorCase{
			{"before the offsets are found to be missing", "\x14\x04" + w, 3},
			{"before the offsets are found to be cut off", "\x14\x04" + w + "\x00", 3},
			{"offsets 0", "\x14\x04" + w + zeros[:(2*width+7)/8], 3},
			{"as many offsets as a block has", "\x14\x04" + w + zeros[:(32*width+7)/8], 33},
			{"second block", "\x02\x06\x00\x06" + w + zeros[:(width+7)/8], 34},
			{"second block, without offsets", "\x02\x06\x00\x06" + w, 34},
			{"before the next block is found to be missing", "\x14\x04" + w, 34},
		})
	}
}

// Promise 11.2.
func TestDecodeRefusesARemainingBit(t *testing.T) {
	for width := 1; width <= 64; width++ {
		for count := 2; count <= 32; count++ {
			offsets := make([]uint64, count)
			offsets[count-1] = 1 << (width - 1)
			packed := []byte(pack(width, offsets...))
			checkDecode(t, "\x14"+signed(math.MinInt64)+string([]byte{byte(width)})+string(packed), sumsOfOffsets(10, offsets))
			for bit := count * width; bit < 8*len(packed); bit++ {
				damaged := slices.Clone(packed)
				damaged[bit/8] |= 1 << (bit % 8)
				s := "\x14" + signed(math.MinInt64) + string([]byte{byte(width)}) + string(damaged)
				checkErrors(t, api.ErrForm, []errorCase{
					{"only block", s, count + 1},
					{"second block", "\x02\x06\x00" + s[1:], count + 33},
				})
			}
		}
	}
	checkErrors(t, api.ErrForm, []errorCase{
		{"before bytes are found to be left", "\x02\x02\x01\x06\x00", 3},
	})
}

// Promise 11.2: the least difference belongs to an offset.
func TestDecodeRefusesOffsetsWithout0(t *testing.T) {
	checkErrors(t, api.ErrForm, []errorCase{
		{"one offset", "\x14\x04\x01\x01", 2},
		{"two offsets", "\x02\x02\x01\x03", 3},
		{"two different offsets", "\x02\x02\x02\x09", 3},
		{"no 0 in the second block", "\x02\x02" + "\x01\xfe\xff\xff\xff" + "\x02\x01\x01", 34},
		{"no 0 in the first block", "\x02\x02" + "\x01\xff\xff\xff\xff" + "\x02\x00", 34},
		{"before the next block is found to be missing", "\x02\x02" + "\x01\xff\xff\xff\xff", 34},
	})
	for width := 1; width <= 64; width++ {
		for count := 1; count <= 32; count++ {
			offsets := slices.Repeat([]uint64{1}, count)
			offsets[count/2] = 1 << (width - 1)
			s := "\x14" + signed(math.MinInt64) + string([]byte{byte(width)})
			checkErrors(t, api.ErrForm, []errorCase{{"none is 0", s + pack(width, offsets...), count + 1}})
			if count > 1 {
				offsets[(count/2+1)%count] = 0
				checkDecode(t, s+pack(width, offsets...), sumsOfOffsets(10, offsets))
			}
		}
	}
}

// Promise 11.2: the width is that of the greatest offset.
func TestDecodeRefusesAWidthThatIsNotThatOfTheGreatestOffset(t *testing.T) {
	checkErrors(t, api.ErrForm, []errorCase{
		{"all offsets are 0", "\x14\x04\x01\x00", 3},
		{"all offsets of a whole block are 0", "\x14\x04\x01" + strings.Repeat("\x00", 4), 33},
		{"width 2 for 0 and 1", "\x02\x02\x02\x04", 3},
		{"second block", "\x02\x06\x00\x06\x02\x04", 35},
		{"before the next block is found to be missing", "\x14\x04\x01" + strings.Repeat("\x00", 4), 34},
	})
	for least := range 64 {
		greatest := uint64(1) << least >> 1
		for width := least; width <= 64; width++ {
			for _, offsets := range [][]uint64{{0, greatest}, {greatest, 0}, {greatest, 0, greatest, greatest / 2}} {
				s := "\x14" + signed(math.MinInt64) + string([]byte{byte(width)}) + pack(width, offsets...)
				if width == least {
					checkDecode(t, s, sumsOfOffsets(10, offsets))
					continue
				}
				checkErrors(t, api.ErrForm, []errorCase{{"greater width", s, len(offsets) + 1}})
			}
		}
	}
}

// Promise 11.2: the greatest difference is a number with sign.
func TestDecodeRefusesADifferenceThatIsTooGreat(t *testing.T) {
	for _, least := range sampleValues() {
		room := math.MaxInt64 - uint64(least)
		for _, greatest := range []uint64{room, room + 1, room + 2, room * 2, room | 1<<63, math.MaxUint64 - 1, math.MaxUint64} {
			width := new(big.Int).SetUint64(greatest).BitLen()
			for _, offsets := range [][]uint64{{0, greatest}, {greatest, 0}, {greatest, 0, greatest}, {0, greatest / 2, greatest, 0}} {
				s := signed(least) + string([]byte{byte(width)}) + pack(width, offsets...)
				want := []int64{1}
				for _, offset := range offsets {
					want = append(want, int64(uint64(want[len(want)-1])+uint64(least)+offset))
				}
				if greatest <= room {
					checkDecode(t, "\x02"+s, want)
					continue
				}
				checkErrors(t, api.ErrForm, []errorCase{
					{"only block", "\x02" + s, len(offsets) + 1},
					{"second block", "\x02\x06\x00" + s, len(offsets) + 33},
				})
			}
		}
	}
	whole := signed(math.MaxInt64) + "\x01" + "\x01\x00\x00\x00"
	checkErrors(t, api.ErrForm, []errorCase{{"before the next block is found to be missing", "\x00" + whole, 34}})
}

// Promise 11.2.
func TestDecodeRefusesBytesThatAreLeft(t *testing.T) {
	for _, left := range []string{"\x00", "\x01", "\x80", "\xff", "\x04\x00", "\x41", strings.Repeat("\xff", 30)} {
		checkErrors(t, api.ErrForm, []errorCase{
			{"one number", "\x14" + left, 1},
			{"no offsets are stored", "\x14\x04\x00" + left, 3},
			{"offsets", "\x02\x02\x01\x02" + left, 3},
			{"offsets that fill a byte", "\x02\x02\x04\x10" + left, 3},
			{"a whole block", "\x02\x06\x00" + left, 33},
			{"two blocks", "\x02\x06\x00\x06\x00" + left, 65},
			{"a batch", "\x00" + strings.Repeat("\x01\x00", 128) + left, api.MaxBatch},
		})
	}
}

// Promise 11.2: the first block with an error decides which one is returned.
func TestDecodeReturnsTheErrorOfTheFirstBlock(t *testing.T) {
	overflow := strings.Repeat("\xff", 10)
	good := "\x06\x00"
	noZero := "\x02\x01\xff\xff\xff\xff"
	checkErrors(t, api.ErrForm, []errorCase{
		{"no 0, then a number that is too great", "\x02" + noZero + overflow, 66},
		{"a width that is too great, then a number that is too great", "\x02\x02\x41" + overflow, 66},
		{"no 0 in the second block, then the end", "\x02" + good + noZero, 66},
	})
	checkErrors(t, api.ErrOverflow, []errorCase{
		{"a number that is too great, then no 0", "\x02" + overflow + noZero, 66},
		{"a number that is too great in the second block, then the end", "\x02" + good + overflow, 98},
	})
	checkErrors(t, api.ErrShort, []errorCase{
		{"a block that ends too early after a good one", "\x02" + good + noZero[:5], 66},
	})
}

// checkAgainstSlowDecode compares all results of Decode, and Decode with Encode.
func checkAgainstSlowDecode(t *testing.T, s string, n int) {
	t.Helper()
	want, wanted := slowDecode(s, n)
	l, e := Decode(s, n)
	if e != wanted || !slices.Equal(l, want) {
		t.Fatalf("Decode(%x, %d) = %v, %d, want %v, %d", s, n, l, e, want, wanted)
	}
	if e == api.OK && (len(l) != n || Encode(l) != s) {
		t.Fatalf("Decode(%x, %d) = %v, but Encode of it is %x", s, n, l, Encode(l))
	}
}

// Promise 11.2: Decode accepts only what Encode returns, and finds the right error otherwise.
func TestDecodeOfAllShortStrings(t *testing.T) {
	alphabet := []byte{0x00, 0x01, 0x02, 0x03, 0x08, 0x80, 0xff}
	var extend func(s string)
	extend = func(s string) {
		for n := range 5 {
			checkAgainstSlowDecode(t, s, n)
		}
		if len(s) == 6 {
			return
		}
		for _, b := range alphabet {
			extend(s + string([]byte{b}))
		}
	}
	extend("")
}

// Promise 11.2: all widths with all offsets that a byte or two hold.
func TestDecodeOfAllOffsets(t *testing.T) {
	for width := range 66 {
		for n := 2; n < 7; n++ {
			for first := range 256 {
				s := "\x14\x04" + string([]byte{byte(width), byte(first)})
				checkAgainstSlowDecode(t, s, n)
				for second := 0; second < 256; second += 17 {
					checkAgainstSlowDecode(t, s+string([]byte{byte(second)}), n)
				}
			}
		}
	}
}

// Promise 11.2: encodings with a byte that is changed, lost or added.
func TestDecodeOfDamagedEncodings(t *testing.T) {
	r := rand.New(rand.NewSource(114))
	for range 150 {
		n := 1 + r.Intn(80)
		s := Encode(randomList(r, n, r.Intn(12), int64(r.Uint64())>>r.Intn(64)))
		for at := range len(s) {
			b := string([]byte{byte(r.Intn(256))})
			flipped := string([]byte{s[at] ^ 1<<r.Intn(8)})
			for _, damaged := range []string{s[:at] + b + s[at+1:], s[:at] + flipped + s[at+1:], s[:at] + s[at+1:], s[:at] + b + s[at:], s[:at]} {
				checkAgainstSlowDecode(t, damaged, n)
			}
		}
		for _, other := range []int{0, n - 1, n + 1, n + 32} {
			checkAgainstSlowDecode(t, s, other)
		}
	}
}

// Rule R2: results are new memory.
func TestDecodeReturnsNewMemory(t *testing.T) {
	first, _ := Decode("\x14\x04\x00", 3)
	for i := range first {
		first[i] = 99
	}
	checkDecode(t, "\x14\x04\x00", []int64{10, 12, 14})
}
