package crc

import (
	"hash/crc32"
	"math"
	"slices"
	"strings"
	"testing"

	"micropart/api"
)

// sampleNumbers returns n numbers that follow a rule which mixes bits.
func sampleNumbers(n int, seed uint64) []uint32 {
	l := make([]uint32, n)
	state := seed
	for i := range l {
		state = state*6364136223846793005 + 1442695040888963407
		l[i] = uint32(state >> 32)
	}
	return l
}

// sampleString returns n bytes with all kinds of bits.
func sampleString(n int, seed uint64) string {
	s := make([]byte, n)
	for i, v := range sampleNumbers(n, seed) {
		s[i] = byte(v >> 13)
	}
	return string(s)
}

// sampleTables returns tables that are not that of Table: of another polynomial, without any
// structure, and with elements that do not depend on their numbers.
func sampleTables() map[string][]uint32 {
	ieee := crc32.MakeTable(crc32.IEEE)
	changed := Table()
	changed[0] = 0x80000001
	return map[string][]uint32{
		"another polynomial": ieee[:],
		"no structure":       sampleNumbers(256, 7),
		"zeros":              make([]uint32, 256),
		"ones":               slices.Repeat([]uint32{0xFFFFFFFF}, 256),
		"element 0 changed":  changed,
	}
}

// tablesOfOtherSizes returns tables that do not have 256 elements. Their elements would do.
func tablesOfOtherSizes() [][]uint32 {
	long := slices.Repeat(Table(), 3)
	return [][]uint32{nil, {}, long[:1], long[:8], long[:128], long[:255], long[1:256], long[:257], long[:512], long}
}

// slowStep is the step of a byte with division in place of shifts and masks.
func slowStep(t []uint32, v uint32, b byte) uint32 {
	number := (v % 256) ^ uint32(b)
	return (v / 256) ^ t[number]
}

func slowSum(t []uint32, s string) uint32 {
	v := uint32(math.MaxUint32)
	for _, b := range []byte(s) {
		v = slowStep(t, v, b)
	}
	return math.MaxUint32 - v
}

func slowJoin(t []uint32, a, b uint32, n int) uint32 {
	for range n {
		a = slowStep(t, a, 0)
	}
	return a ^ b
}

func checkSum(t *testing.T, name string, table []uint32, s string, want uint32) {
	t.Helper()
	before := slices.Clone(table)
	if got := Sum(table, s); got != want {
		t.Errorf("%s: Sum of %d bytes is %08X, want %08X", name, len(s), got, want)
	}
	if !slices.Equal(table, before) {
		t.Errorf("%s: Sum changed its table", name)
	}
}

func checkJoin(t *testing.T, name string, table []uint32, a, b uint32, n int, want uint32) {
	t.Helper()
	before := slices.Clone(table)
	if got := Join(table, a, b, n); got != want {
		t.Errorf("%s: Join of %08X, %08X and %d is %08X, want %08X", name, a, b, n, got, want)
	}
	if !slices.Equal(table, before) {
		t.Errorf("%s: Join changed its table", name)
	}
}

// Promise 3.1, by steps of single bits of the number that is divided.
func TestTableHoldsEightStepsOfEachNumber(t *testing.T) {
	table := Table()
	if len(table) != 256 {
		t.Fatalf("Table has %d elements", len(table))
	}
	for i, got := range table {
		v := uint32(i)
		for range 8 {
			if v%2 == 1 {
				v = v/2 ^ 0x82F63B78
			} else {
				v /= 2
			}
		}
		if got != v {
			t.Errorf("element %d is %08X, want %08X", i, got, v)
		}
	}
}

// Promise 3.1, with elements that are known.
func TestTableIsThatOfCRC32C(t *testing.T) {
	table := Table()
	for i, want := range map[int]uint32{0: 0, 1: 0xF26B8303, 2: 0xE13B70F7, 128: 0x82F63B78, 255: 0xAD7D5351} {
		if table[i] != want {
			t.Errorf("element %d is %08X, want %08X", i, table[i], want)
		}
	}
	if known := crc32.MakeTable(crc32.Castagnoli); !slices.Equal(table, known[:]) {
		t.Error("Table is not that of CRC-32C")
	}
}

// Rule R2: results are new memory.
func TestTableReturnsNewMemory(t *testing.T) {
	first, second := Table(), Table()
	clear(first)
	checkSum(t, "an earlier result, after a change of another one", second, "123456789", 0xE3069283)
	checkSum(t, "a later result", Table(), "123456789", 0xE3069283)
}

// Promise 3.2, and the example of the chapter.
func TestSumOfKnownStrings(t *testing.T) {
	ascending := make([]byte, 32)
	for i := range ascending {
		ascending[i] = byte(i)
	}
	descending := slices.Clone(ascending)
	slices.Reverse(descending)
	for _, c := range []struct {
		name string
		s    string
		want uint32
	}{
		{"example", "123456789", 0xE3069283},
		{"nothing", "", 0},
		{"one byte 0", "\x00", 0x527D5351},
		{"one letter", "a", 0xC1D04330},
		{"32 bytes 0", strings.Repeat("\x00", 32), 0x8A9136AA},
		{"32 bytes FF", strings.Repeat("\xff", 32), 0x62A8AB43},
		{"ascending bytes", string(ascending), 0x46DD794E},
		{"descending bytes", string(descending), 0x113FDB5C},
	} {
		checkSum(t, c.name, Table(), c.s, c.want)
	}
}

// Promise 3.2: all bytes, also those that are no text, and all short lengths.
func TestSumIsCRC32C(t *testing.T) {
	table := Table()
	known := crc32.MakeTable(crc32.Castagnoli)
	for b := range 256 {
		for _, s := range []string{string([]byte{byte(b)}), string([]byte{0xC3, byte(b), 0x80}), "é" + string([]byte{byte(b)})} {
			checkSum(t, "each byte", table, s, crc32.Checksum([]byte(s), known))
		}
	}
	for n := range 300 {
		s := sampleString(n, uint64(n))
		checkSum(t, "each length", table, s, crc32.Checksum([]byte(s), known))
	}
	s := sampleString(1<<20, 1)
	checkSum(t, "long string", table, s, crc32.Checksum([]byte(s), known))
}

// Promise 3.2: the table that is passed decides the result.
func TestSumUsesTheTable(t *testing.T) {
	ieee := crc32.MakeTable(crc32.IEEE)
	checkSum(t, "another polynomial", ieee[:], "123456789", 0xCBF43926)
	zeros := make([]uint32, 256)
	for n, want := range []uint32{0, 0xFF000000, 0xFFFF0000, 0xFFFFFF00, 0xFFFFFFFF, 0xFFFFFFFF} {
		checkSum(t, "zeros", zeros, sampleString(n, 3), want)
	}
	for name, table := range sampleTables() {
		for n := range 50 {
			s := sampleString(n, uint64(n))
			checkSum(t, name, table, s, slowSum(table, s))
		}
	}
}

// Promise 3.2: a byte b chooses the element FF xor b first, and no other one.
func TestSumUsesTheElementOfTheByte(t *testing.T) {
	for b := range 256 {
		for i := range 256 {
			table := make([]uint32, 256)
			table[i] = 0x12345678
			want := uint32(0xFF000000)
			if i == 255^b {
				want ^= 0x12345678
			}
			checkSum(t, "one element", table, string([]byte{byte(b)}), want)
		}
	}
}

// Promise 3.2.
func TestSumRefusesTablesOfOtherSizes(t *testing.T) {
	for _, table := range tablesOfOtherSizes() {
		for _, s := range []string{"", "1", "123456789", "\xff"} {
			checkSum(t, "other size", table, s, 0)
		}
	}
	// What counts is the length, not the memory behind it.
	checkSum(t, "room for more", slices.Grow(Table(), 1000), "123456789", 0xE3069283)
	checkSum(t, "room for 256", Table()[:255], "123456789", 0)
}

// Promise 3.3: every division of strings of many lengths into two.
func TestJoinIsTheSumOfBothStrings(t *testing.T) {
	table := Table()
	for _, s := range []string{"", "1", "123456789", strings.Repeat("\x00", 40), strings.Repeat("\xff", 40), sampleString(300, 5)} {
		for i := range len(s) + 1 {
			checkJoin(t, "division", table, Sum(table, s[:i]), Sum(table, s[i:]), len(s)-i, Sum(table, s))
		}
	}
	s := sampleString(1<<20, 9)
	for _, i := range []int{0, 1, 1000, 1 << 19, len(s) - 1, len(s)} {
		checkJoin(t, "long strings", table, Sum(table, s[:i]), Sum(table, s[i:]), len(s)-i, Sum(table, s))
	}
}

// Promise 3.3: any numbers may be passed, not only those that Sum was seen to return.
func TestJoinOfKnownNumbers(t *testing.T) {
	for _, c := range []struct {
		name string
		a, b uint32
		n    int
		want uint32
	}{
		{"no bytes", 5, 3, 0, 6},
		{"no bytes, all bits", 0xFFFFFFFF, 0x12345678, 0, 0xEDCBA987},
		{"zero", 0, 0, 5, 0},
		{"zero, then any number", 0, 0xDEADBEEF, 1000, 0xDEADBEEF},
		{"shift by a byte", 0xABCDEF00, 0, 1, 0x00ABCDEF},
		{"shift by three bytes", 0xAB000000, 0, 3, 0x000000AB},
		{"one element", 1, 0, 1, 0xF26B8303},
		{"one element, combined", 0x00000180, 0xFFFFFFFF, 1, 0x7D09C486},
		{"four bytes", 0x80000000, 0, 4, 0x82F63B78},
	} {
		checkJoin(t, c.name, Table(), c.a, c.b, c.n, c.want)
	}
}

// Promise 3.3: the table that is passed decides the result, also where it has no structure.
func TestJoinUsesTheTable(t *testing.T) {
	zeros := make([]uint32, 256)
	for n, want := range []uint32{0x12345678, 0x00123456, 0x00001234, 0x00000012, 0, 0} {
		checkJoin(t, "zeros", zeros, 0x12345678, 0xA5A5A5A5, n, want^0xA5A5A5A5)
	}
	numbers := sampleNumbers(40, 11)
	for name, table := range sampleTables() {
		for n := range 40 {
			a, b := numbers[n], numbers[39-n]
			checkJoin(t, name, table, a, b, n, slowJoin(table, a, b, n))
		}
		checkJoin(t, name, table, numbers[0], numbers[1], 100003, slowJoin(table, numbers[0], numbers[1], 100003))
	}
}

// Promise 3.3: a step uses the element of the lowest byte, and no other one.
func TestJoinUsesTheElementOfTheLowestByte(t *testing.T) {
	for low := range uint32(256) {
		for i := range uint32(256) {
			table := make([]uint32, 256)
			table[i] = 0x12345678
			want := uint32(0x00FEDCBA)
			if i == low {
				want ^= 0x12345678
			}
			checkJoin(t, "one element", table, 0xFEDCBA00|low, 0, 1, want)
		}
	}
}

// Promise 3.3.
func TestJoinRefusesTablesOfOtherSizes(t *testing.T) {
	for _, table := range tablesOfOtherSizes() {
		for _, n := range []int{-1, 0, 1, 9, api.MaxSpace, api.MaxSpace + 1} {
			checkJoin(t, "other size", table, 1, 2, n, 0)
		}
	}
	checkJoin(t, "room for more", slices.Grow(Table(), 1000), 5, 3, 0, 6)
	checkJoin(t, "room for 256", Table()[:255], 5, 3, 0, 0)
}

// Promise 3.3: with the table of zeros and these numbers, no length that is used leads to 0.
func TestJoinRefusesLengthsOutOfRange(t *testing.T) {
	for _, n := range []int{-1, -2, -256, math.MinInt32, math.MinInt, api.MaxSpace + 1, api.MaxSpace * 2, 1 << 32, math.MaxInt} {
		for _, table := range [][]uint32{Table(), make([]uint32, 256)} {
			checkJoin(t, "length out of range", table, 1, 2, n, 0)
		}
	}
}

// zerosByDoubling returns a after n bytes 0 with the table of Table, without a loop of n steps:
// a step is linear, so the images of single bits are enough, and those of twice as many steps
// follow from them.
func zerosByDoubling(a uint32, n int) uint32 {
	apply := func(images [32]uint32, v uint32) uint32 {
		image := uint32(0)
		for k := range 32 {
			if v>>k&1 == 1 {
				image ^= images[k]
			}
		}
		return image
	}
	var images [32]uint32
	table := crc32.MakeTable(crc32.Castagnoli)
	for k := range 32 {
		images[k] = slowStep(table[:], 1<<k, 0)
	}
	for ; n > 0; n /= 2 {
		if n%2 == 1 {
			a = apply(images, a)
		}
		var twice [32]uint32
		for k := range 32 {
			twice[k] = apply(images, images[k])
		}
		images = twice
	}
	return a
}

// Promise 3.3: the greatest length is one that is valid. This takes some seconds.
func TestJoinWithTheGreatestLength(t *testing.T) {
	for _, n := range []int{0, 1, 2, 255, 65537} {
		if got, want := zerosByDoubling(0x12345678, n), slowJoin(Table(), 0x12345678, 0, n); got != want {
			t.Fatalf("the test itself is wrong for %d: %08X, %08X", n, got, want)
		}
	}
	want := zerosByDoubling(0x12345678, api.MaxSpace) ^ 0x9ABCDEF0
	checkJoin(t, "greatest length", Table(), 0x12345678, 0x9ABCDEF0, api.MaxSpace, want)
}

// changed returns s with the bits of pattern inverted from bit at on, where bit j of a string
// is the bit with the value 2^(j mod 8) of its byte j / 8, as in layer 2. With the highest bit
// first, the consequence would not hold: five bytes 0 and 62 95 E3 FD 80 have the same Sum.
func changed(s string, at int, pattern uint32) string {
	l := []byte(s)
	for k := range 32 {
		if pattern>>k&1 == 1 {
			l[(at+k)/8] ^= 1 << ((at + k) % 8)
		}
	}
	return string(l)
}

// The chapter's consequence, for patterns of all lengths up to 32 bits.
func TestChangesOfConsecutiveBitsChangeSum(t *testing.T) {
	table := Table()
	patterns := []uint32{0xFFFFFFFF, 0x80000001, 0xAAAAAAAA}
	for k := range 32 {
		patterns = append(patterns, 1<<k, 1<<k|1, 1<<k-1|1<<k)
	}
	patterns = append(patterns, sampleNumbers(100, 13)...)
	for _, s := range []string{strings.Repeat("\x00", 20), "a text of some bytes", sampleString(100, 15)} {
		sum := Sum(table, s)
		for at := range len(s)*8 - 31 {
			for _, pattern := range patterns {
				if pattern != 0 && Sum(table, changed(s, at, pattern)) == sum {
					t.Fatalf("pattern %08X at bit %d of %d bytes does not change Sum", pattern, at, len(s))
				}
			}
		}
	}
}

// The chapter's consequence, for all patterns at once: the change of Sum is the exclusive or of
// those of the single bits, and no such combination of 32 consecutive ones is 0.
func TestChangesOf32BitsAreIndependent(t *testing.T) {
	table := Table()
	s := sampleString(50, 17)
	sum := Sum(table, s)
	for at := range len(s)*8 - 31 {
		var basis [32]uint32
		for k := range 32 {
			change := Sum(table, changed(s, at, 1<<k)) ^ sum
			for bit := 31; bit >= 0 && change != 0; bit-- {
				if change>>bit&1 == 0 {
					continue
				}
				if basis[bit] == 0 {
					basis[bit] = change
					break
				}
				change ^= basis[bit]
			}
			if change == 0 {
				t.Fatalf("the change of bit %d is undone by those of bits from %d on", at+k, at)
			}
		}
	}
	for _, pattern := range sampleNumbers(1000, 19) {
		change := uint32(0)
		for k := range 32 {
			if pattern>>k&1 == 1 {
				change ^= Sum(table, changed(s, 77, 1<<k)) ^ sum
			}
		}
		if got := Sum(table, changed(s, 77, pattern)) ^ sum; got != change {
			t.Fatalf("pattern %08X changes Sum by %08X, its bits by %08X", pattern, got, change)
		}
	}
}
