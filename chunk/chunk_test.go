package chunk

import (
	"encoding/binary"
	"hash/crc32"
	"math"
	"math/rand"
	"slices"
	"strings"
	"testing"

	"micropart/api"
	"micropart/delta"
	"micropart/dict"
	"micropart/rle"
	"micropart/value"
)

const (
	tooManyGroups = "\x80\x00"                                 // 0, but with two groups
	tooGreat      = "\xff\xff\xff\xff\xff\xff\xff\xff\xff\xff" // no number at all
	greatest      = "\xff\xff\xff\xff\xff\xff\xff\xff\xff\x01" // 2^64 - 1
)

// allTypes returns the types of columns.
func allTypes() []int { return []int{api.Int, api.Bool, api.Bytes, api.Date, api.Decimal} }

// noTypes returns numbers that are not types.
func noTypes() []int {
	return []int{0, 6, 7, -1, -3, 255, 257, 1<<32 + 1, 1<<32 + 3, math.MaxInt, math.MinInt}
}

// nullable returns a column of a type that permits null values.
func nullable(typ int) api.Column { return api.Column{Name: "c", Type: typ, Nullable: true} }

// required returns a column of a type that does not permit null values.
func required(typ int) api.Column { return api.Column{Name: "c", Type: typ} }

// codecsOfType returns the codecs that a type uses, as the chapter lists them.
func codecsOfType(typ int) []int {
	if typ == api.Bytes {
		return []int{1, 3}
	}
	return []int{1, 2, 4}
}

// numbers returns values with these numbers.
func numbers(l ...int64) []api.Value {
	values := []api.Value{}
	for _, n := range l {
		values = append(values, api.Value{N: n})
	}
	return values
}

// words returns values with these strings.
func words(l ...string) []api.Value {
	values := []api.Value{}
	for _, s := range l {
		values = append(values, api.Value{S: s})
	}
	return values
}

// nullValue returns a null value.
func nullValue() api.Value { return api.Value{Null: true} }

// summed returns s with its checksum, which Go's library computes.
func summed(s string) string {
	sum := crc32.Checksum([]byte(s), crc32.MakeTable(crc32.Castagnoli))
	return s + string(binary.LittleEndian.AppendUint32(nil, sum))
}

// unsigned returns a number of variable length, which Go's library writes.
func unsigned(n uint64) string { return string(binary.AppendUvarint(nil, n)) }

// slowBitmap sets one bit after the other.
func slowBitmap(l []api.Value) string {
	bitmap := make([]byte, (len(l)+7)/8)
	for i, v := range l {
		if v.Null {
			bitmap[i/8] |= 1 << (i % 8)
		}
	}
	return string(bitmap)
}

// slowPayload returns the payload of the values that are not null.
func slowPayload(typ, codec int, l []api.Value) string {
	numbers, strings, plain := []int64{}, []string{}, []byte{}
	for _, v := range l {
		if v.Null {
			continue
		}
		numbers, strings = append(numbers, v.N), append(strings, v.S)
		if typ == api.Bytes {
			plain = append(plain, unsigned(uint64(len(v.S)))+v.S...)
		} else {
			plain = binary.AppendVarint(plain, v.N)
		}
	}
	switch codec {
	case api.Runs:
		return rle.Encode(numbers)
	case api.Dict:
		return dict.Encode(strings)
	case api.Delta:
		return delta.Encode(numbers)
	}
	return string(plain)
}

// chunkOf returns the chunk of a list with a codec.
func chunkOf(typ, codec int, l []api.Value) string {
	count := 0
	for _, v := range l {
		if v.Null {
			count++
		}
	}
	head := string([]byte{byte(codec)}) + unsigned(uint64(len(l))) + unsigned(uint64(count))
	if count > 0 {
		head += slowBitmap(l)
	}
	return summed(head + slowPayload(typ, codec, l))
}

// slowEncode builds all chunks of a list, and takes the first of the shortest ones.
func slowEncode(typ int, l []api.Value) string {
	chunks := []string{}
	for _, codec := range codecsOfType(typ) {
		chunks = append(chunks, chunkOf(typ, codec, l))
	}
	return slices.MinFunc(chunks, func(a, b string) int { return len(a) - len(b) })
}

// cut returns the number at the beginning of s, whichever way it is written, and what follows it.
func cut(s string) (uint64, string, bool) {
	n, size := binary.Uvarint([]byte(s))
	if size <= 0 {
		return 0, "", false
	}
	return n, s[size:], true
}

// slowPlain reads values of the codec Plain, and does not care for what is left.
func slowPlain(typ int, s string, n int) ([]api.Value, bool) {
	l := []api.Value{}
	for range n {
		v, rest, ok := cut(s)
		if !ok || typ == api.Bytes && v > uint64(len(rest)) {
			return nil, false
		}
		if typ == api.Bytes {
			l = append(l, api.Value{S: rest[:v]})
			s = rest[v:]
			continue
		}
		zag := int64(v / 2)
		if v%2 == 1 {
			zag = -zag - 1
		}
		l = append(l, api.Value{N: zag})
		s = rest
	}
	return l, true
}

// slowValues reads a payload of n values that are not null.
func slowValues(typ, codec int, s string, n int) ([]api.Value, bool) {
	switch codec {
	case api.Runs:
		l, e := rle.Decode(s, n)
		return numbers(l...), e == api.OK
	case api.Delta:
		l, e := delta.Decode(s, n)
		return numbers(l...), e == api.OK
	case api.Dict:
		l, e := dict.Decode(s, n)
		return words(l...), e == api.OK
	}
	return slowPlain(typ, s, n)
}

// slowDecode reads what may be a chunk with a good checksum without much care, and then
// compares s with the chunk of what it has read, so that it finds each fault of the form.
func slowDecode(c api.Column, s string) ([]api.Value, bool) {
	size, rest, ok := cut(s[1 : len(s)-4])
	if !ok || size > 4096 {
		return nil, false
	}
	count, rest, ok := cut(rest)
	if !ok {
		return nil, false
	}
	l := make([]api.Value, size)
	if count > 0 {
		bytes := (int(size) + 7) / 8
		if len(rest) < bytes {
			return nil, false
		}
		for i := range l {
			l[i].Null = rest[i/8]>>(i%8)%2 == 1
		}
		rest = rest[bytes:]
	}
	present := 0
	for _, v := range l {
		if !v.Null {
			present++
		}
	}
	codec := int(s[0])
	values, ok := slowValues(c.Type, codec, rest, present)
	if !ok {
		return nil, false
	}
	for i := range l {
		if !l[i].Null {
			l[i], values = values[0], values[1:]
		}
		if value.Check(c, l[i]) != api.OK {
			return nil, false
		}
	}
	return l, slices.Contains(codecsOfType(c.Type), codec) && chunkOf(c.Type, codec, l) == s
}

// ranges returns the least and the greatest number of a type.
func ranges(typ int) (int64, int64) {
	switch typ {
	case api.Bool:
		return 0, 1
	case api.Date:
		return api.MinDate, api.MaxDate
	case api.Decimal:
		return -api.MaxDecimal, api.MaxDecimal
	}
	return math.MinInt64, math.MaxInt64
}

// sampleValues returns valid values of a type that are not null.
func sampleValues(typ int) []api.Value {
	if typ == api.Bytes {
		long := strings.Repeat("x", api.MaxBytes)
		return words("", "\x00", "a", "ab", "abc", "null", "\xff\xfe", long, long[1:], strings.Repeat("\x80", 10))
	}
	least, greatest := ranges(typ)
	l := numbers(least, greatest)
	for _, n := range []int64{0, 1, -1, 2, 63, 64, -64, -65, 8191, 8192, 1 << 20, 1 << 40, least + 1, greatest - 1} {
		if n >= least && n <= greatest {
			l = append(l, api.Value{N: n})
		}
	}
	return l
}

// randomList returns a list of one of the kinds that the codecs are made for: runs, few different
// values, equal differences, or nothing of it; with a share of null values.
func randomList(r *rand.Rand, typ, n, nullShare int) []api.Value {
	samples := sampleValues(typ)
	r.Shuffle(len(samples), func(i, j int) { samples[i], samples[j] = samples[j], samples[i] })
	samples = samples[:1+r.Intn(len(samples))]
	stays, step := r.Intn(10), int64(r.Intn(5))
	least, greatest := ranges(typ)
	l := make([]api.Value, n)
	v := samples[0]
	for i := range l {
		if step > 0 && typ != api.Bytes && v.N >= least && v.N <= greatest-step {
			v.N += step
		} else if r.Intn(10) >= stays {
			v = samples[r.Intn(len(samples))]
		}
		l[i] = v
		if r.Intn(100) < nullShare {
			l[i] = nullValue()
		}
	}
	return l
}

// smallLists calls f with all lists of at most longest elements that are among values.
func smallLists(longest int, values []api.Value, f func(l []api.Value)) {
	var extend func(l []api.Value)
	extend = func(l []api.Value) {
		f(l)
		if len(l) == longest {
			return
		}
		for _, v := range values {
			extend(append(slices.Clone(l), v))
		}
	}
	extend(nil)
}

func checkEncode(t *testing.T, c api.Column, l []api.Value, want string) {
	t.Helper()
	before := slices.Clone(l)
	if s, e := Encode(c, l); e != api.OK || s != want {
		t.Fatalf("Encode of %d elements, type %d: %x, %d, want %x", len(l), c.Type, s, e, want)
	}
	if !slices.Equal(l, before) {
		t.Fatalf("Encode changed the %d elements", len(l))
	}
}

func checkDecode(t *testing.T, c api.Column, s string, want []api.Value) {
	t.Helper()
	if l, e := Decode(c, s); e != api.OK || !slices.Equal(l, want) {
		t.Fatalf("Decode(type %d, %x) = %v, %d, want %v", c.Type, s, l, e, want)
	}
}

func checkCodec(t *testing.T, s string, want int) {
	t.Helper()
	if codec, e := Codec(s); e != api.OK || codec != want {
		t.Fatalf("Codec(%x) = %d, %d, want %d", s, codec, e, want)
	}
}

// checkList compares all functions with what is slowly computed for a list, and lets Decode read
// the chunks of all codecs.
func checkList(t *testing.T, c api.Column, l []api.Value) {
	t.Helper()
	checkEncode(t, c, l, slowEncode(c.Type, l))
	for _, codec := range codecsOfType(c.Type) {
		s := chunkOf(c.Type, codec, l)
		checkDecode(t, c, s, l)
		checkCodec(t, s, codec)
	}
}

func checkEncodeError(t *testing.T, c api.Column, l []api.Value, want api.Errno) {
	t.Helper()
	if s, e := Encode(c, l); s != "" || e != want {
		t.Errorf("Encode(%v, %d elements) = %d bytes, %d, want %d", c, len(l), len(s), e, want)
	}
}

func checkDecodeError(t *testing.T, name string, c api.Column, s string, want api.Errno) {
	t.Helper()
	if l, e := Decode(c, s); len(l) != 0 || e != want {
		t.Errorf("%s: Decode(%v, %x) = %d elements, %d, want %d", name, c, s, len(l), e, want)
	}
}

func checkCodecError(t *testing.T, name, s string, want api.Errno) {
	t.Helper()
	if codec, e := Codec(s); codec != 0 || e != want {
		t.Errorf("%s: Codec(%x) = %d, %d, want %d", name, s, codec, e, want)
	}
}

type formCase struct {
	name    string
	c       api.Column
	content string
}

// checkForms expects ErrForm for contents with good checksums.
func checkForms(t *testing.T, cases []formCase) {
	t.Helper()
	for _, q := range cases {
		checkDecodeError(t, q.name, q.c, summed(q.content), api.ErrForm)
	}
}

type knownChunk struct {
	c       api.Column
	l       []api.Value
	content string
}

func checkKnown(t *testing.T, cases []knownChunk) {
	t.Helper()
	for _, q := range cases {
		s := summed(q.content)
		checkEncode(t, q.c, q.l, s)
		checkDecode(t, q.c, s, q.l)
		checkCodec(t, s, int(q.content[0]))
	}
}

// The example of the chapter, with all bytes of its checksum, and the shortest chunk.
func TestWholeChunks(t *testing.T) {
	checkEncode(t, required(api.Int), numbers(5, 5, 5), "\x02\x03\x00\x03\x0a\xf5\xa0\x77\x08")
	checkDecode(t, required(api.Int), "\x02\x03\x00\x03\x0a\xf5\xa0\x77\x08", numbers(5, 5, 5))
	checkCodec(t, "\x02\x03\x00\x03\x0a\xf5\xa0\x77\x08", api.Runs)
	checkEncode(t, required(api.Int), nil, "\x01\x00\x00\x04\x31\x25\xc5")
	checkDecode(t, required(api.Int), "\x01\x00\x00\x04\x31\x25\xc5", nil)
}

// Promises 12.1 to 12.3: the parts of chunks of numbers.
func TestKnownChunksOfNumbers(t *testing.T) {
	n := nullValue()
	long := strings.Repeat("\xff", 9)
	checkKnown(t, []knownChunk{
		{nullable(api.Int), nil, "\x01\x00\x00"},
		{nullable(api.Int), []api.Value{}, "\x01\x00\x00"},
		{nullable(api.Int), []api.Value{n}, "\x01\x01\x01\x01"},
		{nullable(api.Int), []api.Value{n, n, n}, "\x01\x03\x03\x07"},
		{nullable(api.Int), slices.Repeat([]api.Value{n}, 8), "\x01\x08\x08\xff"},
		{nullable(api.Int), slices.Repeat([]api.Value{n}, 9), "\x01\x09\x09\xff\x01"},
		{required(api.Int), numbers(0), "\x01\x01\x00\x00"},
		{required(api.Int), numbers(-1), "\x01\x01\x00\x01"},
		{required(api.Int), numbers(64), "\x01\x01\x00\x80\x01"},
		{required(api.Int), numbers(math.MaxInt64), "\x01\x01\x00\xfe" + long[1:] + "\x01"},
		{required(api.Int), numbers(math.MinInt64), "\x01\x01\x00" + long + "\x01"},
		{required(api.Int), numbers(1, 5), "\x01\x02\x00\x02\x0a"},
		{nullable(api.Int), []api.Value{n, {N: 3}, n}, "\x01\x03\x02\x05\x06"},
		{nullable(api.Int), []api.Value{{N: 3}, n, {N: 4}}, "\x01\x03\x01\x02\x06\x08"},
		{nullable(api.Int), []api.Value{{N: 5}, n, {N: 5}, {N: 5}}, "\x02\x04\x01\x02\x03\x0a"}, // a run across a null value
		{nullable(api.Int), []api.Value{{N: 1}, n, {N: 2}, {N: 3}, {N: 4}}, "\x04\x05\x01\x02\x02\x02\x00"},
		{required(api.Int), numbers(10, 12, 14, 16, 18), "\x04\x05\x00\x14\x04\x00"},
		{required(api.Bool), numbers(0, 1), "\x01\x02\x00\x00\x02"},
		{required(api.Bool), numbers(1, 1, 1), "\x02\x03\x00\x03\x02"},
		{required(api.Bool), numbers(0, 1, 0, 1, 1, 1, 0, 0), "\x04\x08\x00\x00\x01\x02\x62\x11"}, // differences 1, -1, 1, 0, 0, -1, 0
		{required(api.Date), numbers(api.MinDate, api.MinDate), "\x02\x02\x00\x02\xf3\xe4\x57"},
		{required(api.Date), numbers(api.MaxDate), "\x01\x01\x00\xc0\x82\xe6\x02"},
		{required(api.Decimal), numbers(150), "\x01\x01\x00\xac\x02"},
		{required(api.Decimal), numbers(-2, -4, -6, -8), "\x04\x04\x00\x03\x03\x00"},
		{required(api.Int), numbers(slices.Repeat([]int64{0}, api.MaxBatch)...), "\x02\x80\x20\x00\x80\x20\x00"},
		{nullable(api.Int), slices.Repeat([]api.Value{n}, api.MaxBatch), "\x01\x80\x20\x80\x20" + strings.Repeat("\xff", 512)},
	})
}

// Promises 12.1 to 12.3: the parts of chunks of strings.
func TestKnownChunksOfStrings(t *testing.T) {
	n := nullValue()
	long := strings.Repeat("x", api.MaxBytes)
	checkKnown(t, []knownChunk{
		{nullable(api.Bytes), nil, "\x01\x00\x00"},
		{nullable(api.Bytes), []api.Value{n, n}, "\x01\x02\x02\x03"},
		{required(api.Bytes), words(""), "\x01\x01\x00\x00"},
		{required(api.Bytes), words("ab"), "\x01\x01\x00\x02ab"},
		{required(api.Bytes), words("ab", ""), "\x01\x02\x00\x02ab\x00"},
		{required(api.Bytes), words("ab", "ab", "ab"), "\x03\x03\x00\x01\x02ab"},
		{required(api.Bytes), words("b", "a", "b", "a", "b"), "\x03\x05\x00\x02\x01a\x01b\x15"},
		{required(api.Bytes), words("", "", ""), "\x03\x03\x00\x01\x00"},
		{nullable(api.Bytes), []api.Value{n, {S: "ab"}, n, {S: "ab"}, {S: "ab"}}, "\x03\x05\x02\x05\x01\x02ab"},
		{nullable(api.Bytes), []api.Value{{S: ""}, n}, "\x01\x02\x01\x02\x00"}, // an empty string is not null
		{required(api.Bytes), words(long), "\x01\x01\x00\x40" + long},
		{required(api.Bytes), words(long, long), "\x03\x02\x00\x01\x40" + long},
	})
}

// Promise 12.1: among payloads of equal length, the codec with the least number is taken.
func TestFewestBytes(t *testing.T) {
	for _, q := range []struct {
		typ    int
		l      []api.Value
		fewest []int // all codecs whose payloads have the fewest bytes
	}{
		{api.Int, nil, []int{api.Plain, api.Runs, api.Delta}},
		{api.Int, numbers(1, 1, 2, 2), []int{api.Plain, api.Runs, api.Delta}},
		{api.Int, numbers(7, 7), []int{api.Plain, api.Runs}},
		{api.Int, numbers(7), []int{api.Plain, api.Delta}},
		{api.Int, numbers(1, 2, 3), []int{api.Plain, api.Delta}},
		{api.Int, numbers(64, 65), []int{api.Plain, api.Delta}},
		{api.Int, numbers(1, 1, 1, 2, 2), []int{api.Runs, api.Delta}},
		{api.Int, numbers(1, 9, 5), []int{api.Plain}},
		{api.Int, numbers(7, 7, 7), []int{api.Runs}},
		{api.Int, numbers(1, 2, 3, 4), []int{api.Delta}},
		{api.Bytes, nil, []int{api.Plain}},
		{api.Bytes, words("", ""), []int{api.Plain, api.Dict}},
		{api.Bytes, words("ab", "a", "a"), []int{api.Plain, api.Dict}},
		{api.Bytes, words("a"), []int{api.Plain}},
		{api.Bytes, words("a", "a"), []int{api.Dict}},
	} {
		least := len(slowPayload(q.typ, q.fewest[0], q.l))
		for _, codec := range codecsOfType(q.typ) {
			size := len(slowPayload(q.typ, codec, q.l))
			if size < least || (size == least) != slices.Contains(q.fewest, codec) {
				t.Errorf("%v: codec %d takes %d bytes, and codec %d takes %d", q.l, codec, size, q.fewest[0], least)
			}
		}
		for _, n := range [][]api.Value{nil, {nullValue()}, slices.Repeat([]api.Value{nullValue()}, 20)} {
			l := append(slices.Clone(n), q.l...)
			checkEncode(t, nullable(q.typ), l, chunkOf(q.typ, q.fewest[0], l))
		}
	}
}

// Promises 12.1 to 12.3: all lists of a few values, null ones among them.
func TestAllShortLists(t *testing.T) {
	for _, typ := range allTypes() {
		least, greatest := ranges(typ)
		values := append(numbers(0, 1, least, greatest), nullValue())
		if typ == api.Bool {
			values = append(numbers(0, 1), nullValue())
		}
		if typ == api.Bytes {
			values = append(words("", "a", "ab", strings.Repeat("x", api.MaxBytes)), nullValue())
		}
		smallLists(5, values, func(l []api.Value) { checkList(t, nullable(typ), l) })
	}
}

// Promises 12.1 to 12.3: lists of all lengths up to some bytes of a bitmap, and near that of a batch.
func TestListsOfAllLengths(t *testing.T) {
	r := rand.New(rand.NewSource(121))
	lengths := []int{api.MaxBatch - 8, api.MaxBatch - 7, api.MaxBatch - 1, api.MaxBatch}
	for n := range 140 {
		lengths = append(lengths, n)
	}
	for _, typ := range allTypes() {
		for _, n := range lengths {
			checkList(t, required(typ), randomList(r, typ, n, 0))
			for _, share := range []int{1, 30, 99, 100} {
				checkList(t, nullable(typ), randomList(r, typ, n, share))
			}
		}
	}
}

// Promises 12.1 and 12.2: the name and the scale of a column do not matter, as value.Check does not read them.
func TestNamesAndScalesDoNotMatter(t *testing.T) {
	for _, typ := range allTypes() {
		l := sampleValues(typ)
		s, _ := Encode(required(typ), l)
		for _, c := range []api.Column{
			{Type: typ},
			{Name: "Key", Type: typ, Scale: 2},
			{Name: "seq", Type: typ, Scale: -1, Nullable: true},
			{Name: strings.Repeat("z", 100), Type: typ, Scale: api.MaxScale + 1},
		} {
			checkEncode(t, c, l, s)
			checkDecode(t, c, s, l)
		}
	}
}

// Promises 12.1 and 12.2: no other numbers are types, whatever else is wrong.
func TestOtherTypes(t *testing.T) {
	good := chunkOf(api.Int, api.Plain, numbers(1, 2))
	for _, typ := range noTypes() {
		for _, c := range []api.Column{nullable(typ), required(typ)} {
			for _, l := range [][]api.Value{nil, numbers(1), words("a"), {nullValue()}, {{Null: true, N: 1}}, make([]api.Value, api.MaxBatch+1)} {
				checkEncodeError(t, c, l, api.ErrArg)
			}
			for _, s := range []string{good, "", good[:4], good[1:], summed("\x01\x00\x00"), summed("\x00"), chunkOf(api.Bytes, api.Dict, words("a"))} {
				checkDecodeError(t, "other type", c, s, api.ErrArg)
			}
		}
	}
}

// Promise 12.1: a list may not have more elements than a batch, whatever its values are.
func TestEncodeRefusesMoreThanABatch(t *testing.T) {
	for _, typ := range allTypes() {
		for _, n := range []int{api.MaxBatch + 1, api.MaxBatch + 2, 2 * api.MaxBatch, 1 << 16} {
			checkEncodeError(t, nullable(typ), make([]api.Value, n), api.ErrFull)
			checkEncodeError(t, nullable(typ), slices.Repeat([]api.Value{nullValue()}, n), api.ErrFull)
			checkEncodeError(t, required(typ), slices.Repeat([]api.Value{nullValue()}, n), api.ErrFull)
			checkEncodeError(t, required(typ), slices.Repeat([]api.Value{{N: 9, S: "x"}}, n), api.ErrFull)
		}
		checkEncodeError(t, required(typ), slices.Repeat([]api.Value{nullValue()}, api.MaxBatch), api.ErrNull)
	}
}

// badValues returns values that are not valid for required columns of a type, each with the error of value.Check.
func badValues(typ int) map[api.Value]api.Errno {
	bad := map[api.Value]api.Errno{
		{Null: true}:         api.ErrNull,
		{Null: true, N: 1}:   api.ErrType,
		{Null: true, S: "a"}: api.ErrType,
		{N: 1, S: "a"}:       api.ErrType,
		{N: 1 << 62, S: "a"}: api.ErrType,
		{N: math.MinInt64, S: strings.Repeat("a", api.MaxBytes+1)}: api.ErrType,
	}
	if typ == api.Bytes {
		bad[api.Value{N: 1}] = api.ErrType
		bad[api.Value{S: strings.Repeat("a", api.MaxBytes+1)}] = api.ErrRange
		bad[api.Value{S: strings.Repeat("a", 1<<14)}] = api.ErrRange
		return bad
	}
	bad[api.Value{S: "a"}] = api.ErrType
	least, greatest := ranges(typ)
	if typ != api.Int {
		for _, n := range []int64{least - 1, greatest + 1, math.MinInt64, math.MaxInt64} {
			bad[api.Value{N: n}] = api.ErrRange
		}
	}
	return bad
}

// Promise 12.1: the error of the first value that is not valid.
func TestEncodeRefusesValuesThatAreNotValid(t *testing.T) {
	for _, typ := range allTypes() {
		good := sampleValues(typ)
		for v, want := range badValues(typ) {
			checkEncodeError(t, required(typ), []api.Value{v}, want)
			checkEncodeError(t, required(typ), append(slices.Clone(good), v), want)
			full := slices.Repeat(good[:1], api.MaxBatch)
			full[api.MaxBatch-1] = v
			checkEncodeError(t, required(typ), full, want)
			for other := range badValues(typ) {
				checkEncodeError(t, required(typ), []api.Value{good[0], v, good[1], other}, want)
			}
			if want != api.ErrNull {
				checkEncodeError(t, nullable(typ), []api.Value{nullValue(), v}, want)
			}
		}
	}
}

// Promises 12.2 and 12.3: there is at least a codec and a checksum.
func TestShortStrings(t *testing.T) {
	whole := summed("\x01")
	for _, s := range []string{"", "\x01", "\x01\x00\x00", "\xff\xff\xff\xff", "\x00\x00\x00\x00", whole[:4], whole[1:], summed("")} {
		for _, typ := range allTypes() {
			checkDecodeError(t, "short", nullable(typ), s, api.ErrShort)
		}
		checkCodecError(t, "short", s, api.ErrShort)
	}
	checkDecodeError(t, "five bytes", nullable(api.Int), whole, api.ErrForm)
	checkCodec(t, whole, api.Plain)
}

// Promises 12.2 and 12.3: a checksum that is wrong is found before any other fault.
func TestWrongChecksums(t *testing.T) {
	good := chunkOf(api.Int, api.Runs, numbers(5, 5, 5))
	text := chunkOf(api.Bytes, api.Dict, words("ab", "ab"))
	sum := len(good) - 4
	for _, s := range []string{
		good[1:], good[:len(good)-1], good + "\x00", "\x00" + good, good[:5],
		good[:sum] + "\x00\x00\x00\x00",
		good[:sum] + "\xff\xff\xff\xff",
		good[:sum] + string([]byte{good[sum+3], good[sum+2], good[sum+1], good[sum]}), // the highest byte first
		"\x00\x00\x00\x00\x00",
		"\x01\x00\x00\x00\x00",
		text[1:], text[:len(text)-1], "\x05" + text[1:],
	} {
		for _, typ := range allTypes() {
			checkDecodeError(t, "checksum", required(typ), s, api.ErrSum)
		}
		checkCodecError(t, "checksum", s, api.ErrSum)
	}
}

// The consequences: no byte of a chunk can be changed.
func TestChangesOfSingleBytes(t *testing.T) {
	for _, typ := range allTypes() {
		l := append(sampleValues(typ), nullValue())
		for _, codec := range codecsOfType(typ) {
			s := []byte(chunkOf(typ, codec, l))
			for at := range s {
				right := s[at]
				for change := 1; change < 256; change++ {
					s[at] = right ^ byte(change)
					checkDecodeError(t, "changed byte", nullable(typ), string(s), api.ErrSum)
				}
				checkCodecError(t, "changed byte", string(s), api.ErrSum)
				s[at] = right
			}
			checkDecode(t, nullable(typ), string(s), l)
		}
	}
}

// Promises 12.2 and 12.3: which codecs there are, and which of them a type uses.
func TestAllFirstBytes(t *testing.T) {
	for first := range 256 {
		codec := string([]byte{byte(first)})
		isCodec := first >= 1 && first <= 4
		for _, s := range []string{summed(codec), summed(codec + "\x00\x00"), summed(codec + "anything\xff"), summed(codec + strings.Repeat("\x00", 5000))} {
			if isCodec {
				checkCodec(t, s, first)
			} else {
				checkCodecError(t, "first byte", s, api.ErrForm)
			}
		}
		for _, typ := range allTypes() {
			s := summed(codec + "\x00\x00")
			if first == api.Dict {
				s = summed(codec + "\x00\x00\x00") // a dictionary without words has one byte
			}
			if slices.Contains(codecsOfType(typ), first) {
				checkDecode(t, required(typ), s, nil)
				continue
			}
			checkDecodeError(t, "codec that is not used", required(typ), s, api.ErrForm)
			for _, other := range codecsOfType(typ) {
				checkDecodeError(t, "codec of another payload", required(typ), summed(codec+"\x01\x00"+slowPayload(typ, other, sampleValues(typ)[:1])), api.ErrForm)
			}
		}
	}
	// The payloads are right for these codecs, but the types do not use them.
	checkDecodeError(t, "strings of a column of numbers", nullable(api.Int), chunkOf(api.Bytes, api.Dict, words("")), api.ErrForm)
	checkDecodeError(t, "runs of a column of strings", nullable(api.Bytes), chunkOf(api.Int, api.Runs, numbers(0)), api.ErrForm)
	checkDecodeError(t, "differences of a column of strings", nullable(api.Bytes), chunkOf(api.Int, api.Delta, numbers(0, 0)), api.ErrForm)
}

// Promise 12.2: the number of values.
func TestNumberOfValues(t *testing.T) {
	number, text := nullable(api.Int), nullable(api.Bytes)
	zeros := strings.Repeat("\x00", api.MaxBatch)
	checkDecode(t, number, summed("\x01\x80\x20\x00"+zeros), make([]api.Value, api.MaxBatch))
	checkDecode(t, text, summed("\x01\x80\x20\x00"+zeros), make([]api.Value, api.MaxBatch))
	checkForms(t, []formCase{
		{"none", number, "\x01"},
		{"cut off", number, "\x01\x80"},
		{"too many groups", number, "\x01" + tooManyGroups + "\x00"},
		{"1 with too many groups", number, "\x01\x81\x00\x00\x02"},
		{"too great", number, "\x01" + tooGreat + "\x00"},
		{"2^64 - 1", number, "\x01" + greatest + "\x00"},
		{"2^64 - 1, all null", number, "\x01" + greatest + greatest},
		{"2^63", number, "\x01" + unsigned(1<<63) + "\x00"},
		{"2^32, of which nothing is left in 32 bits", number, "\x01" + unsigned(1<<32) + "\x00"},
		{"one more than a batch", number, "\x01\x81\x20\x00" + zeros + "\x00"},
		{"one more than a batch, of strings", text, "\x01\x81\x20\x00" + zeros + "\x00"},
		{"one more than a batch, as a run", number, "\x02\x81\x20\x00\x81\x20\x00"},
		{"one more than a batch, all null", number, "\x01\x81\x20\x81\x20" + strings.Repeat("\xff", 512) + "\x01"},
		{"one more than a batch, one null", number, "\x01\x81\x20\x01\x01" + strings.Repeat("\x00", 512) + zeros},
		{"one less than there are", number, "\x01\x01\x00\x02\x04"},
		{"one more than there are", number, "\x01\x03\x00\x02\x04"},
		{"no values, but a payload", number, "\x01\x00\x00\x02"},
		{"no values, but a run", number, "\x02\x00\x00\x01\x02"},
		{"no values, but a first number", number, "\x04\x00\x00\x02"},
		{"no values, but a word", text, "\x03\x00\x00\x01\x01a"},
		{"no values, and no dictionary", text, "\x03\x00\x00"},
	})
}

// Promise 12.2: the number of null values and their bitmap.
func TestNumberOfNullValues(t *testing.T) {
	number, n := nullable(api.Int), nullValue()
	checkDecode(t, number, summed("\x01\x03\x02\x05\x06"), []api.Value{n, {N: 3}, n})
	checkForms(t, []formCase{
		{"none", number, "\x01\x00"},
		{"none, but values", number, "\x01\x03"},
		{"cut off", number, "\x01\x03\x82"},
		{"too many groups", number, "\x01\x03\x82\x00\x05\x06"},
		{"0 with too many groups", number, "\x01\x01" + tooManyGroups + "\x02"},
		{"too great", number, "\x01\x03" + tooGreat + "\x07"},
		{"2^64 - 1", number, "\x01\x03" + greatest + "\x07"},
		{"2^32 + 2", number, "\x01\x03" + unsigned(1<<32+2) + "\x05\x06"},
		{"one less than there are", number, "\x01\x03\x01\x05\x06"},
		{"one more than there are", number, "\x01\x03\x03\x05\x06"},
		{"one less, and a value more", number, "\x01\x03\x01\x05\x06\x06"},
		{"more than there are values", number, "\x01\x03\x04\x07"},
		{"more than there are values, and bits for them", number, "\x01\x03\x04\x0f"},
		{"a null value without values", number, "\x01\x00\x01"},
		{"a null value without values, but a bit", number, "\x01\x00\x01\x01"},
		{"no bitmap", number, "\x01\x01\x01"},
		{"a bitmap without bits", number, "\x01\x01\x01\x00\x02"},
		{"a bitmap for no null value", number, "\x01\x02\x00\x00\x02\x04"},
		{"a bitmap that is cut off", number, "\x01\x09\x09\xff"},
		{"a bitmap with a byte more", number, "\x01\x08\x08\xff\x00"},
		{"a remaining bit instead of another one", number, "\x01\x03\x02\x09\x06\x06"},
		{"a remaining bit beside the other ones", number, "\x01\x03\x02\x0d\x06"},
		{"a remaining bit, and the number of all bits", number, "\x01\x03\x03\x0d\x06"},
		{"the highest remaining bit", number, "\x01\x03\x02\x85\x06"},
		{"all are null, but there is a payload", number, "\x01\x02\x02\x03\x00"},
		{"all are null, but there is a run", number, "\x02\x02\x02\x03\x01\x00"},
		{"all are null, and there is no dictionary", nullable(api.Bytes), "\x03\x02\x02\x03"},
		{"a bitmap that goes on in the checksum", number, "\x01\x20\x20\xff"},
	})
	// Null values are not valid for columns that are not Nullable.
	for _, typ := range allTypes() {
		for _, codec := range codecsOfType(typ) {
			for _, l := range [][]api.Value{{n}, append(sampleValues(typ), n), append([]api.Value{n}, sampleValues(typ)...)} {
				checkDecode(t, nullable(typ), chunkOf(typ, codec, l), l)
				checkDecodeError(t, "null value", required(typ), chunkOf(typ, codec, l), api.ErrForm)
			}
		}
	}
}

// Promise 12.2: the payload has all values, and nothing else.
func TestPayloads(t *testing.T) {
	number, text := nullable(api.Int), nullable(api.Bytes)
	checkForms(t, []formCase{
		{"no number", number, "\x01\x01\x00"},
		{"number that is cut off", number, "\x01\x01\x00\x82"},
		{"number with too many groups", number, "\x01\x01\x00\x82\x00"},
		{"number that is too great", number, "\x01\x01\x00" + tooGreat},
		{"bytes after a number", number, "\x01\x01\x00\x02\x00"},
		{"no length", text, "\x01\x01\x00"},
		{"length that is cut off", text, "\x01\x01\x00\x80"},
		{"length with too many groups", text, "\x01\x01\x00\x81\x00a"},
		{"length that is too great", text, "\x01\x01\x00" + tooGreat + "a"},
		{"length 2^64 - 1", text, "\x01\x01\x00" + greatest + "a"},
		{"length 2^63", text, "\x01\x01\x00" + unsigned(1<<63) + "a"},
		{"length 2^63 - 1", text, "\x01\x01\x00" + unsigned(1<<63-1) + "a"},
		{"string that is cut off", text, "\x01\x01\x00\x02a"},
		{"string that goes on in the checksum", text, "\x01\x01\x00\x05a"},
		{"no string", text, "\x01\x01\x00\x01"},
		{"bytes after a string", text, "\x01\x01\x00\x01ab"},
		{"no second string", text, "\x01\x02\x00\x01a"},
		{"run of length 0", number, "\x02\x01\x00\x00\x02\x01\x02"},
		{"run that is too long", number, "\x02\x02\x00\x03\x02"},
		{"run that is too short", number, "\x02\x02\x00\x01\x02"},
		{"runs of one value", number, "\x02\x02\x00\x01\x02\x01\x02"},
		{"bytes after the runs", number, "\x02\x01\x00\x01\x02\x00"},
		{"no differences", number, "\x04\x02\x00\x02"},
		{"width that is too great", number, "\x04\x03\x00\x14\x04\x01\x00"},
		{"bytes after the differences", number, "\x04\x03\x00\x14\x04\x00\x00"},
		{"words that are not in order", text, "\x03\x02\x00\x02\x01b\x01a\x02"},
		{"word that is not used", text, "\x03\x02\x00\x02\x01a\x01b\x00"},
		{"index without a word", text, "\x03\x03\x00\x03\x01a\x01b\x01c\x34"},
		{"bytes after the indices", text, "\x03\x02\x00\x02\x01a\x01b\x02\x00"},
	})
}

// Promise 12.2: values that are not valid, by all codecs.
func TestDecodeRefusesValuesThatAreNotValid(t *testing.T) {
	for _, typ := range allTypes() {
		good := sampleValues(typ)
		for v, e := range badValues(typ) {
			if e != api.ErrRange {
				continue
			}
			for _, codec := range codecsOfType(typ) {
				for _, l := range [][]api.Value{{v}, append(slices.Clone(good), v), {v, good[0]}, {v, v, v}, {nullValue(), v}} {
					checkDecodeError(t, "value out of range", nullable(typ), chunkOf(typ, codec, l), api.ErrForm)
				}
			}
		}
	}
	// The same chunk may be valid for another type.
	for _, n := range []int64{2, -1, api.MinDate - 1, api.MaxDate + 1, api.MaxDecimal + 1, -api.MaxDecimal - 1, math.MinInt64, math.MaxInt64} {
		for _, codec := range codecsOfType(api.Int) {
			s := chunkOf(api.Int, codec, numbers(n, n))
			checkDecode(t, required(api.Int), s, numbers(n, n))
			checkDecodeError(t, "value out of range", required(api.Bool), s, api.ErrForm)
		}
	}
}

// checkAgainstSlowDecode compares all results of Decode with what is slowly read.
func checkAgainstSlowDecode(t *testing.T, c api.Column, content string) {
	t.Helper()
	s := summed(content)
	want, ok := slowDecode(c, s)
	if !ok {
		checkDecodeError(t, "damaged", c, s, api.ErrForm)
		return
	}
	checkDecode(t, c, s, want)
	best, e := Encode(c, want)
	if e != api.OK || len(best) > len(s) {
		t.Errorf("Encode(%v) = %x, %d, longer than %x", want, best, e, s)
	}
}

// Promise 12.2: all short contents, of some bytes that have meanings.
func TestDecodeOfAllShortContents(t *testing.T) {
	columns := []api.Column{nullable(api.Int), required(api.Int), required(api.Bool), nullable(api.Bytes), required(api.Bytes)}
	alphabet := []string{"\x00", "\x01", "\x02", "\x03", "\x80"}
	var extend func(content string)
	extend = func(content string) {
		for _, c := range columns {
			checkAgainstSlowDecode(t, c, content)
		}
		if len(content) == 7 {
			return
		}
		for _, b := range alphabet {
			extend(content + b)
		}
	}
	for codec := range 6 {
		extend(string([]byte{byte(codec)}))
	}
}

// Promise 12.2: contents with a byte that is changed, lost or added, and a good checksum.
func TestDecodeOfDamagedContents(t *testing.T) {
	r := rand.New(rand.NewSource(122))
	for range 40 {
		for _, typ := range allTypes() {
			l := randomList(r, typ, 1+r.Intn(30), r.Intn(3)*20)
			for _, codec := range codecsOfType(typ) {
				s := chunkOf(typ, codec, l)
				content := s[:len(s)-4]
				for at := range len(content) {
					b := string([]byte{byte(r.Intn(256))})
					flipped := string([]byte{content[at] ^ 1<<r.Intn(8)})
					rest := content[at+1:]
					for _, damaged := range []string{content[:at] + b + rest, content[:at] + flipped + rest, content[:at] + rest, content[:at] + b + content[at:], content[:at]} {
						if damaged != "" {
							checkAgainstSlowDecode(t, nullable(typ), damaged)
							checkAgainstSlowDecode(t, required(typ), damaged)
						}
					}
				}
			}
		}
	}
}

// Rule R2: results are new memory.
func TestDecodeReturnsNewMemory(t *testing.T) {
	for _, typ := range allTypes() {
		for _, codec := range codecsOfType(typ) {
			want := append(sampleValues(typ), nullValue())
			s := chunkOf(typ, codec, want)
			first, _ := Decode(nullable(typ), s)
			for i := range first {
				first[i] = api.Value{N: 99, S: "changed"}
			}
			checkDecode(t, nullable(typ), s, want)
		}
	}
}
