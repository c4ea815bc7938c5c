package dict

import (
	"math"
	"math/rand"
	"slices"
	"strings"
	"testing"

	"micropart/api"
	"micropart/varint"
)

// slowLess compares two strings byte by byte.
func slowLess(a, b string) bool {
	if a == "" || b == "" {
		return a == "" && b != ""
	}
	if a[0] == b[0] {
		return slowLess(a[1:], b[1:])
	}
	return a[0] < b[0]
}

// slowBuild puts each string of l in its place among those before it.
func slowBuild(l []string) ([]string, []int) {
	words := []string{}
	for _, word := range l {
		place := 0
		for place < len(words) && slowLess(words[place], word) {
			place++
		}
		if place == len(words) || words[place] != word {
			words = slices.Insert(words, place, word)
		}
	}
	indices := []int{}
	for _, word := range l {
		indices = append(indices, slices.Index(words, word))
	}
	return words, indices
}

// slowNumber writes a number that is not negative in groups of seven bits.
func slowNumber(v int) string {
	if v < 128 {
		return string([]byte{byte(v)})
	}
	return string([]byte{byte(v%128 + 128)}) + slowNumber(v/128)
}

// slowWords writes strings with their number and their lengths.
func slowWords(words ...string) string {
	var encoding strings.Builder
	encoding.WriteString(slowNumber(len(words)))
	for _, word := range words {
		encoding.WriteString(slowNumber(len(word)) + word)
	}
	return encoding.String()
}

// slowWidth returns the least number of bits that hold the indices of count strings.
func slowWidth(count int) int {
	width := 0
	for power := 1; power < count; power *= 2 {
		width++
	}
	return width
}

// slowIndices writes one bit after the other as a text, and the text as bytes.
func slowIndices(indices []int, count int) string {
	bits := []byte{}
	for _, index := range indices {
		for range slowWidth(count) {
			bits = append(bits, byte('0'+index%2))
			index /= 2
		}
	}
	packed := []byte{}
	for len(bits) > 0 {
		b := 0
		for i, digit := range bits[:min(8, len(bits))] {
			b += int(digit-'0') << i
		}
		packed = append(packed, byte(b))
		bits = bits[min(8, len(bits)):]
	}
	return string(packed)
}

func slowEncode(l []string) string {
	words, indices := slowBuild(l)
	return slowWords(words...) + slowIndices(indices, len(words))
}

// slowDecode reads the strings, and looks for the indices whose bytes are the rest of s.
func slowDecode(s string, n int) ([]string, api.Errno) {
	count, at, e := varint.Get(s, 0)
	if e != api.OK {
		return nil, e
	}
	if count > uint64(n) || (count == 0) != (n == 0) {
		return nil, api.ErrForm
	}
	words := []string{}
	for range count {
		length, next, e := varint.Get(s, at)
		if e != api.OK {
			return nil, e
		}
		word := []byte{}
		for ; length > 0; length-- {
			if next == len(s) {
				return nil, api.ErrShort
			}
			word = append(word, s[next])
			next++
		}
		words = append(words, string(word))
		if last := len(words) - 1; last > 0 && !slowLess(words[last-1], words[last]) {
			return nil, api.ErrForm
		}
		at = next
	}
	return slowChoose(words, s[at:], n)
}

// slowChoose returns the list of n words that are all used, and whose indices have the bytes packed.
func slowChoose(words []string, packed string, n int) ([]string, api.Errno) {
	width := slowWidth(len(words))
	if len(packed)*8 < n*width {
		return nil, api.ErrShort
	}
	indices := make([]int, n)
	for bit := range n * width {
		indices[bit/width] += int(packed[bit/8]>>(bit%8)%2) << (bit % width)
	}
	if slowIndices(indices, len(words)) != packed {
		return nil, api.ErrForm
	}
	l := []string{}
	for _, index := range indices {
		if index >= len(words) {
			return nil, api.ErrForm
		}
		l = append(l, words[index])
	}
	for i := range words {
		if !slices.Contains(indices, i) {
			return nil, api.ErrForm
		}
	}
	return l, api.OK
}

// numberedWords returns n different strings in ascending order; all bytes occur in them.
func numberedWords(n int) []string {
	words := make([]string, n)
	for i := range words {
		words[i] = string([]byte{byte(i / 256), byte(i % 256)})
	}
	return words
}

// randomWords returns n of the strings of at most longest bytes, which are among those of alphabet.
func randomWords(r *rand.Rand, n, longest int, alphabet string) []string {
	words := make([]string, n)
	for i := range words {
		word := make([]byte, r.Intn(longest+1))
		for k := range word {
			word[k] = alphabet[r.Intn(len(alphabet))]
		}
		words[i] = string(word)
	}
	return words
}

// smallLists calls f with all lists of at most longest elements that are among words.
func smallLists(longest int, words []string, f func(l []string)) {
	var extend func(l []string)
	extend = func(l []string) {
		f(l)
		if len(l) == longest {
			return
		}
		for _, word := range words {
			extend(append(slices.Clone(l), word))
		}
	}
	extend(nil)
}

func checkBuild(t *testing.T, l, words []string, indices []int) {
	t.Helper()
	before := slices.Clone(l)
	gotWords, gotIndices := Build(l)
	if !slices.Equal(gotWords, words) {
		t.Errorf("Build of %d elements has the strings %.200q, want %.200q", len(l), gotWords, words)
	}
	if !slices.Equal(gotIndices, indices) {
		t.Errorf("Build of %d elements has the indices %v, want %v", len(l), gotIndices, indices)
	}
	if !slices.Equal(l, before) {
		t.Errorf("Build changed the %d elements", len(l))
	}
}

func checkEncode(t *testing.T, l []string, s string) {
	t.Helper()
	before := slices.Clone(l)
	if got := Encode(l); got != s {
		t.Errorf("Encode of %d elements is %x, want %x", len(l), got, s)
	}
	if !slices.Equal(l, before) {
		t.Errorf("Encode changed the %d elements", len(l))
	}
}

func checkDecode(t *testing.T, s string, want []string) {
	t.Helper()
	if l, e := Decode(s, len(want)); e != api.OK || !slices.Equal(l, want) {
		t.Errorf("Decode(%x, %d) = %q, %d, want %q", s, len(want), l, e, want)
	}
}

// checkList compares all functions with what is slowly computed for a list.
func checkList(t *testing.T, l []string) {
	t.Helper()
	words, indices := slowBuild(l)
	s := slowWords(words...) + slowIndices(indices, len(words))
	checkBuild(t, l, words, indices)
	checkEncode(t, l, s)
	checkDecode(t, s, l)
}

type errorCase struct {
	name string
	s    string
	n    int
}

func checkErrors(t *testing.T, want api.Errno, cases []errorCase) {
	t.Helper()
	for _, c := range cases {
		if l, e := Decode(c.s, c.n); len(l) != 0 || e != want {
			t.Errorf("%s: Decode(%x, %d) = %d elements, %d, want %d", c.name, c.s, c.n, len(l), e, want)
		}
	}
}

// Promises 10.1, 10.2 and 10.3, and the example of the chapter.
func TestKnownLists(t *testing.T) {
	long := strings.Repeat("x", 300)
	for _, c := range []struct {
		l       []string
		words   []string
		indices []int
		s       string
	}{
		{[]string{"b", "a", "b"}, []string{"a", "b"}, []int{1, 0, 1}, "\x02\x01a\x01b\x05"}, // the example
		{nil, nil, nil, "\x00"},
		{[]string{}, nil, nil, "\x00"},
		{[]string{""}, []string{""}, []int{0}, "\x01\x00"},
		{[]string{"a"}, []string{"a"}, []int{0}, "\x01\x01a"},
		{[]string{"a", "a", "a"}, []string{"a"}, []int{0, 0, 0}, "\x01\x01a"},
		{[]string{"a", ""}, []string{"", "a"}, []int{1, 0}, "\x02\x00\x01a\x01"},
		{[]string{"a", "b", "c"}, []string{"a", "b", "c"}, []int{0, 1, 2}, "\x03\x01a\x01b\x01c\x24"},
		{[]string{"c", "b", "a"}, []string{"a", "b", "c"}, []int{2, 1, 0}, "\x03\x01a\x01b\x01c\x06"},
		{[]string{"d", "a", "c", "b", "d"}, []string{"a", "b", "c", "d"}, []int{3, 0, 2, 1, 3}, "\x04\x01a\x01b\x01c\x01d\x63\x03"},
		{[]string{"a", "b", "c", "d", "e"}, []string{"a", "b", "c", "d", "e"}, []int{0, 1, 2, 3, 4}, "\x05\x01a\x01b\x01c\x01d\x01e\x88\x46"},
		{[]string{"ab", "b", "a"}, []string{"a", "ab", "b"}, []int{1, 2, 0}, "\x03\x01a\x02ab\x01b\x09"}, // the shorter one is not always less
		{[]string{"\x80", "\x7f", "\x00", "\xff"}, []string{"\x00", "\x7f", "\x80", "\xff"}, []int{2, 1, 0, 3}, "\x04\x01\x00\x01\x7f\x01\x80\x01\xff\xc6"},
		{[]string{"é", "z", "\xc3"}, []string{"z", "\xc3", "é"}, []int{2, 0, 1}, "\x03\x01z\x01\xc3\x02\xc3\xa9\x12"}, // bytes, not runes
		{[]string{long, long[1:]}, []string{long[1:], long}, []int{1, 0}, "\x02\xab\x02" + long[1:] + "\xac\x02" + long + "\x01"},
		{slices.Repeat([]string{"z"}, api.MaxBatch), []string{"z"}, make([]int, api.MaxBatch), "\x01\x01z"},
	} {
		checkBuild(t, c.l, c.words, c.indices)
		checkEncode(t, c.l, c.s)
		checkDecode(t, c.s, c.l)
	}
}

// Promises 10.1, 10.2 and 10.3: all ways in which a few elements can be ordered.
func TestAllShortLists(t *testing.T) {
	smallLists(6, []string{"", "\x00", "a", "aa", "\xff"}, func(l []string) { checkList(t, l) })
}

// Promises 10.1, 10.2 and 10.3: many different strings, in any order.
func TestRandomLists(t *testing.T) {
	r := rand.New(rand.NewSource(101))
	for n := range 400 {
		checkList(t, randomWords(r, n, 1+r.Intn(3), "ab"))
		checkList(t, randomWords(r, n, 3, "\x00\x01\x7f\x80\xff"))
		checkList(t, randomWords(r, n, 200, "x\xe9"))
	}
}

// Promises 10.2 and 10.3: all numbers of strings near those that change the width of the indices.
func TestWidthsOfIndices(t *testing.T) {
	r := rand.New(rand.NewSource(102))
	for power := 1; power <= api.MaxBatch; power *= 2 {
		for count := max(power-1, 1); count <= min(power+1, api.MaxBatch); count++ {
			words := numberedWords(count)
			indices := []int{}
			for len(indices)+count < min(2*count+3, api.MaxBatch) {
				indices = append(indices, r.Intn(count))
			}
			indices = append(indices, r.Perm(count)...)
			l := []string{}
			for _, index := range indices {
				l = append(l, words[index])
			}
			s := slowWords(words...) + slowIndices(indices, count)
			checkBuild(t, l, words, indices)
			checkEncode(t, l, s)
			checkDecode(t, s, l)
		}
	}
}

// Promises 10.1, 10.2 and 10.3: lists with as many elements as Decode permits.
func TestListsOfABatch(t *testing.T) {
	r := rand.New(rand.NewSource(103))
	for _, n := range []int{api.MaxBatch - 1, api.MaxBatch} {
		for _, count := range []int{1, 2, 17, 300} {
			l := numberedWords(count)
			for len(l) < n {
				l = append(l, l[r.Intn(count)])
			}
			r.Shuffle(n, func(i, k int) { l[i], l[k] = l[k], l[i] })
			checkList(t, l)
		}
	}
}

// Promises 10.1, 10.2 and 10.3: the length of the strings is not restricted.
func TestStringsOfAllSizes(t *testing.T) {
	for _, size := range []int{127, 128, 255, 256, 1<<14 - 1, 1 << 14, 1<<16 - 1, 1 << 16, 1<<16 + 1, 1 << 21} {
		word := strings.Repeat("w", size)
		words := []string{word[1:], word[1:] + "v", word}
		s := slowWords(words...) + "\x12"
		l := []string{word, word[1:], word[1:] + "v"}
		checkBuild(t, l, words, []int{2, 0, 1})
		checkEncode(t, l, s)
		checkDecode(t, s, l)
		checkErrors(t, api.ErrShort, []errorCase{{"the only string is cut off", slowWords(word)[:size], 1}})
	}
}

// Promise 10.2: a list may not have more elements than a batch.
func TestEncodeRefusesMoreThanABatch(t *testing.T) {
	for _, n := range []int{api.MaxBatch + 1, api.MaxBatch + 2, 2 * api.MaxBatch, 1 << 16, 1<<16 + 1} {
		checkEncode(t, make([]string, n), "")
		checkEncode(t, slices.Repeat([]string{"a", "b"}, n)[:n], "")
		checkEncode(t, numberedWords(n), "")
	}
}

// Promise 10.1: the number of elements that Build takes is not restricted.
func TestBuildOfMoreElementsThanABatch(t *testing.T) {
	r := rand.New(rand.NewSource(104))
	for _, n := range []int{api.MaxBatch + 1, 10000, 1 << 16} {
		words := numberedWords(n)
		for _, indices := range [][]int{r.Perm(n), append(r.Perm(n), r.Perm(n)...)} {
			l := []string{}
			for _, index := range indices {
				l = append(l, words[index])
			}
			checkBuild(t, l, words, indices)
		}
		checkBuild(t, slices.Repeat([]string{"same"}, n), []string{"same"}, make([]int, n))
	}
}

// Promise 10.3: the errors and their order.
func TestDecodeRefusesNumbersOutOfRange(t *testing.T) {
	for _, n := range []int{-1, -2, -api.MaxBatch, math.MinInt, api.MaxBatch + 1, 1 << 32, math.MaxInt} {
		checkErrors(t, api.ErrRange, []errorCase{
			{"nothing", "", n},
			{"no strings", "\x00", n},
			{"one string", "\x01\x01a", n},
			{"two strings", "\x02\x01a\x01b\x05", n},
			{"an encoding that ends too early", "\x80", n},
			{"numbers that are too great", strings.Repeat("\xff", 30), n},
		})
	}
}

// Promise 10.3: also numbers that no int can hold.
func TestDecodeRefusesANumberOfStringsThatDoesNotFit(t *testing.T) {
	for _, count := range []uint64{0, 4, 5, 128, 1 << 16, 1<<16 + 3, 1 << 31, 1<<32 + 3, math.MaxInt64, 1 << 63, 1<<63 + 3, math.MaxUint64 - 2, math.MaxUint64} {
		number := varint.Put(count)
		checkErrors(t, api.ErrForm, []errorCase{
			{"strings that follow", number + "\x01a\x01b\x01c\x01d\x1b", 3},
			{"before a length is found to be missing", number, 3},
			{"before a string is found to be cut off", number + "\x02a", 3},
			{"before a length is found to be too great", number + strings.Repeat("\xff", 10), 3},
			{"before the indices are found to be missing", number + "\x01a\x01b\x01c\x01d", 3},
		})
	}
	checkErrors(t, api.ErrForm, []errorCase{
		{"one string for an empty list", "\x01\x01a", 0},
		{"an empty string for an empty list", "\x01\x00", 0},
		{"a string that is missing, for an empty list", "\x01", 0},
		{"no strings for a batch", "\x00", api.MaxBatch},
		{"one more than a batch", slowWords(numberedWords(api.MaxBatch + 1)...), api.MaxBatch},
		{"two strings for one element", "\x02\x01a\x01b\x00", 1},
	})
}

// Promise 10.3.
func TestDecodeRefusesAnEncodingThatEndsTooEarly(t *testing.T) {
	checkErrors(t, api.ErrShort, []errorCase{
		{"nothing", "", 3},
		{"nothing for an empty list", "", 0},
		{"nothing for a batch", "", api.MaxBatch},
		{"within the number of strings", "\x82", 3},
		{"no length", "\x02", 3},
		{"within the length", "\x02\x81", 3},
		{"no second length", "\x02\x01a", 3},
		{"within the second length", "\x02\x01a\x81", 3},
		{"at the beginning of a string", "\x01\x01", 3},
		{"within a string", "\x01\x02a", 3},
		{"within the second string", "\x02\x01a\x03bc", 3},
		{"within a string that is less than the one before as far as it goes", "\x02\x01b\x02a", 3},
		{"within a string that begins as the one before", "\x02\x02ab\x02a", 3},
		{"no indices", "\x02\x01a\x01b", 3},
		{"within the indices", "\x02\x01a\x01b\x55", 9},
		{"within the indices of three strings", "\x03\x01a\x01b\x01c\x24", 5},
		{"nine bytes of a length", "\x01" + strings.Repeat("\xff", 9), 3},
	})
}

// Promise 10.3: also lengths that no int can hold.
func TestDecodeRefusesALengthBeyondTheEnd(t *testing.T) {
	for _, length := range []uint64{6, 7, 128, 1 << 16, 1<<16 + 2, 1 << 31, 1<<32 + 2, math.MaxInt64 - 1, math.MaxInt64, 1 << 63, 1<<63 + 2, math.MaxUint64 - 2, math.MaxUint64} {
		l := varint.Put(length)
		checkErrors(t, api.ErrShort, []errorCase{
			{"only string", "\x01" + l + "abcde", 3},
			{"first string", "\x02" + l + "a\x01b\x05", 3},
			{"second string", "\x02\x01a" + l + "bcd\x05", 3},
			{"second string, which is not greater", "\x02\x01b" + l + "a", 3},
			{"nothing after the length", "\x01" + l, 3},
		})
	}
}

// Promise 10.3: the errors of varint.Get, other than ErrShort.
func TestDecodeRefusesNumbersWithoutTheFormOfPut(t *testing.T) {
	tooGreat := strings.Repeat("\xff", 9) + "\x02"
	endless := strings.Repeat("\xff", 10)
	checkErrors(t, api.ErrOverflow, []errorCase{
		{"number of strings", tooGreat + "\x01a", 3},
		{"number of strings without an end", endless, 3},
		{"number of strings for an empty list", tooGreat, 0},
		{"length", "\x01" + tooGreat + "a", 3},
		{"length without an end", "\x01" + endless, 3},
		{"second length", "\x02\x01a" + tooGreat + "b\x05", 3},
		{"second length without an end", "\x02\x01a" + endless, 3},
	})
	checkErrors(t, api.ErrForm, []errorCase{
		{"number of strings with too many groups", "\x81\x00\x01a", 3},
		{"number of strings 0 with too many groups", "\x80\x00", 0},
		{"length with too many groups", "\x01\x81\x00a", 3},
		{"length 0 with too many groups", "\x01\x80\x00", 3},
		{"length with too many groups, and no string", "\x01\x81\x00", 3},
		{"second length with too many groups", "\x02\x01a\x81\x00b\x05", 3},
	})
}

// Promise 10.3: different strings in ascending order.
func TestDecodeRefusesStringsThatAreNotAscending(t *testing.T) {
	words := []string{"", "\x00", "\x00\x00", "\x01", "A", "a", "a\x00", "aa", "ab", "b", "\x7f", "\x80", "\xff", "\xff\x00"}
	for i, first := range words {
		for k, second := range words {
			s := slowWords(first, second)
			if i < k {
				checkDecode(t, s+"\x05", []string{second, first, second})
				continue
			}
			checkErrors(t, api.ErrForm, []errorCase{
				{"two strings", s + "\x05", 3},
				{"before the indices are found to be missing", s, 3},
				{"before the next length is found to be missing", "\x03" + s[1:], 3},
				{"before the next length is found to be too great", "\x03" + s[1:] + strings.Repeat("\xff", 10), 3},
				{"before the next string is found to be cut off", "\x03" + s[1:] + "\x05a", 3},
			})
			if i > k && second != "" {
				checkErrors(t, api.ErrForm, []errorCase{{"last two strings", slowWords("", first, second) + "\x24", 3}})
			}
		}
	}
}

// Promise 10.3: the errors of bitpack.Unpack, other than ErrShort.
func TestDecodeRefusesIndicesWithoutTheFormOfPack(t *testing.T) {
	for _, left := range []string{"\x00", "\x01", "\x80", "\xff", "\x00\x00", strings.Repeat("\xff", 30)} {
		checkErrors(t, api.ErrForm, []errorCase{
			{"no strings", "\x00" + left, 0},
			{"one string", "\x01\x01a" + left, 3},
			{"one string that is empty", "\x01\x00" + left, 3},
			{"two strings", "\x02\x01a\x01b\x05" + left, 3},
			{"two strings that fill a byte", "\x02\x01a\x01b\x55" + left, 8},
			{"three strings", "\x03\x01a\x01b\x01c\x24" + left, 3},
		})
	}
	for bit := 3; bit < 8; bit++ {
		checkErrors(t, api.ErrForm, []errorCase{
			{"a remaining bit is 1", "\x02\x01a\x01b" + string([]byte{5 + 1<<bit}), 3},
		})
	}
}

// Promise 10.3: each index is that of a string.
func TestDecodeRefusesAnIndexThatIsTooGreat(t *testing.T) {
	for count := 3; count <= 40; count++ {
		words := numberedWords(count)
		indices := []int{}
		for i := range words {
			indices = append(indices, i)
		}
		for index := range 1 << slowWidth(count) {
			for place := range count + 1 {
				s := slowWords(words...) + slowIndices(slices.Insert(slices.Clone(indices), place, index), count)
				if index < count {
					checkDecode(t, s, slices.Insert(slices.Clone(words), place, words[index]))
					continue
				}
				checkErrors(t, api.ErrForm, []errorCase{{"all strings are used", s, count + 1}})
			}
		}
	}
}

// Promise 10.3: each string is used.
func TestDecodeRefusesAStringThatIsNotUsed(t *testing.T) {
	checkErrors(t, api.ErrForm, []errorCase{
		{"the first of two", "\x02\x01a\x01b\x07", 3},
		{"the second of two", "\x02\x01a\x01b\x00", 3},
		{"an empty one", "\x02\x00\x01b\x07", 3},
	})
	for count := 2; count <= 40; count++ {
		words := numberedWords(count)
		for missing := range words {
			indices := []int{}
			for i := range words {
				indices = append(indices, i)
			}
			for other := range words {
				if other == missing {
					continue
				}
				indices[missing] = other
				s := slowWords(words...) + slowIndices(indices, count)
				checkErrors(t, api.ErrForm, []errorCase{{"another one is used twice", s, count}})
			}
		}
	}
}

// checkAgainstSlowDecode compares all results of Decode, and Decode with Encode.
func checkAgainstSlowDecode(t *testing.T, s string, n int) {
	t.Helper()
	want, wanted := slowDecode(s, n)
	l, e := Decode(s, n)
	if e != wanted || !slices.Equal(l, want) {
		t.Fatalf("Decode(%x, %d) = %q, %d, want %q, %d", s, n, l, e, want, wanted)
	}
	if e == api.OK && (len(l) != n || Encode(l) != s) {
		t.Fatalf("Decode(%x, %d) = %q, but Encode of it is %x", s, n, l, Encode(l))
	}
}

// Promise 10.3: Decode accepts only what Encode returns, and finds the right error otherwise.
func TestDecodeOfAllShortStrings(t *testing.T) {
	alphabet := []byte{0x00, 0x01, 0x02, 0x03, 0x05, 0x80, 0x81}
	var extend func(s string)
	extend = func(s string) {
		for n := range 5 {
			checkAgainstSlowDecode(t, s, n)
		}
		if len(s) == 6 {
			return
		}
		for _, b := range alphabet {
			extend(s + string([]byte{b}))
		}
	}
	extend("")
}

// Promise 10.3: all indices after strings that are in order.
func TestDecodeOfAllIndices(t *testing.T) {
	for count := 1; count <= 5; count++ {
		words := slowWords([]string{"", "a", "ab", "b", "c"}[:count]...)
		for n := range 7 {
			checkAgainstSlowDecode(t, words, n)
			for first := range 256 {
				checkAgainstSlowDecode(t, words+string([]byte{byte(first)}), n)
				for second := range 256 {
					checkAgainstSlowDecode(t, words+string([]byte{byte(first), byte(second)}), n)
				}
			}
		}
	}
}

// Promise 10.3: encodings with a byte that is changed, lost or added.
func TestDecodeOfDamagedEncodings(t *testing.T) {
	r := rand.New(rand.NewSource(105))
	for range 500 {
		n := 1 + r.Intn(30)
		s := Encode(randomWords(r, n, 1+r.Intn(4), "ab\x02\x81"))
		for at := range len(s) {
			b := string([]byte{byte(r.Intn(256))})
			for _, damaged := range []string{s[:at] + b + s[at+1:], s[:at] + s[at+1:], s[:at] + b + s[at:], s[:at]} {
				checkAgainstSlowDecode(t, damaged, n)
			}
		}
		for _, other := range []int{0, n - 1, n + 1} {
			checkAgainstSlowDecode(t, s, other)
		}
	}
}

// Rule R2: results are new memory.
func TestResultsAreNewMemory(t *testing.T) {
	for _, l := range [][]string{{"a"}, {"a", "b"}, {"b", "a", "b"}} {
		before := slices.Clone(l)
		words, indices := slowBuild(l)
		s := slowEncode(l)
		gotWords, gotIndices := Build(l)
		decoded, _ := Decode(s, len(l))
		for _, result := range [][]string{gotWords, decoded} {
			for i := range result {
				result[i] = "changed"
			}
		}
		for i := range gotIndices {
			gotIndices[i] = 99
		}
		if !slices.Equal(l, before) {
			t.Errorf("%q has become %q", before, l)
		}
		checkBuild(t, l, words, indices)
		checkDecode(t, s, l)
	}
}
