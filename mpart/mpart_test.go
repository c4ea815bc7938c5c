package mpart_test

import (
	"encoding/binary"
	"hash/crc32"
	"math"
	"math/rand"
	"slices"
	"strconv"
	"strings"
	"testing"

	"micropart/api"
	"micropart/chunk"
	"micropart/mpart"
	"micropart/schema"
	"micropart/value"
	"micropart/zone"
)

func number(n int64) api.Value { return api.Value{N: n} }

func bytesOf(s string) api.Value { return api.Value{S: s} }

func null() api.Value { return api.Value{Null: true} }

func rank(key api.Value, seq int64) api.Rank { return api.Rank{Key: key, Seq: seq} }

func rec(seq int64, row ...api.Value) api.Rec { return api.Rec{Seq: seq, Row: row} }

func column(name string, typ int, nullable bool) api.Column {
	return api.Column{Name: name, Type: typ, Nullable: nullable}
}

func schemaOf(key int, columns ...api.Column) api.Schema {
	return api.Schema{Columns: columns, Key: key}
}

// allTypes returns the types of columns.
func allTypes() []int { return []int{api.Int, api.Bool, api.Bytes, api.Date, api.Decimal} }

// strictKey returns a schema whose only column, of type Int, is the key.
func strictKey() api.Schema { return schemaOf(0, column("k", api.Int, false)) }

// textAndKey returns a schema whose key is the second of two columns.
func textAndKey() api.Schema {
	return schemaOf(1, column("s", api.Bytes, true), column("k", api.Int, false))
}

// wideSchema returns a schema with as many columns as a schema may have.
func wideSchema(key int) api.Schema {
	s := schemaOf(key, api.Column{Name: "e", Type: api.Decimal, Scale: 2}, api.Column{Name: "f", Type: api.Decimal, Scale: 18, Nullable: true})
	for _, typ := range allTypes() {
		if typ != api.Decimal {
			s.Columns = append(s.Columns, column("n"+strconv.Itoa(typ), typ, true), column("s"+strconv.Itoa(typ), typ, false))
		}
	}
	s.Columns = append(s.Columns, column("seq", api.Bytes, true), column("z", api.Int, false))
	return s
}

// manySchemas returns schemas with one column, with two, and with twelve, with keys of all types.
func manySchemas() []api.Schema {
	l := []api.Schema{strictKey(), textAndKey()}
	for _, typ := range allTypes() {
		l = append(l, schemaOf(0, column("a", typ, false)), schemaOf(0, column("a", typ, true)))
		l = append(l, schemaOf(0, column("a", typ, true), column("b", api.Int, false)))
	}
	for key := range wideSchema(0).Columns {
		l = append(l, wideSchema(key))
	}
	return l
}

type invalidSchema struct {
	s api.Schema
	e api.Errno
}

// invalidSchemas returns schemas with the error that schema.Check has for them.
func invalidSchemas() []invalidSchema {
	many := wideSchema(0)
	many.Columns = append(many.Columns, column("more", api.Int, true))
	return []invalidSchema{
		{api.Schema{}, api.ErrArg},
		{api.Schema{Key: 1}, api.ErrArg},
		{many, api.ErrFull},
		{schemaOf(0, column("", api.Int, true)), api.ErrName},
		{schemaOf(0, column("key", api.Int, true)), api.ErrName},
		{schemaOf(0, column("k", api.Int, true), column("k", api.Int, true)), api.ErrDuplicate},
		{schemaOf(0, column("k", 0, true)), api.ErrType},
		{schemaOf(0, column("k", 6, true)), api.ErrType},
		{schemaOf(-1, column("k", api.Int, true)), api.ErrRange},
		{schemaOf(1, column("k", api.Int, true)), api.ErrRange},
		{schemaOf(0, api.Column{Name: "k", Type: api.Decimal, Scale: 19}), api.ErrRange},
	}
}

// sampleValues returns valid values of a column.
func sampleValues(c api.Column) []api.Value {
	long := strings.Repeat("x", api.MaxBytes)
	candidates := []api.Value{null()}
	for _, n := range []int64{math.MinInt64, -api.MaxDecimal, api.MinDate, -8193, -1, 0, 1, 2, 300, api.MaxDate, api.MaxDecimal, math.MaxInt64} {
		candidates = append(candidates, number(n))
	}
	for _, s := range []string{"", "\x00", "a", "ab", "MPT1", "\xff\xfe", long, long[1:]} {
		candidates = append(candidates, bytesOf(s))
	}
	return slices.DeleteFunc(candidates, func(v api.Value) bool { return value.Check(c, v) != api.OK })
}

// orderValues compares two values of one type: null values first.
func orderValues(a, b api.Value) int {
	switch {
	case a.Null || b.Null:
		return boolNumber(b.Null) - boolNumber(a.Null)
	case a.S != b.S:
		return strings.Compare(a.S, b.S)
	case a.N < b.N:
		return -1
	}
	return boolNumber(a.N > b.N)
}

func boolNumber(b bool) int {
	if b {
		return 1
	}
	return 0
}

// orderRanks compares two ranks with keys of one type.
func orderRanks(a, b api.Rank) int {
	if order := orderValues(a.Key, b.Key); order != 0 {
		return order
	}
	return boolNumber(a.Seq > b.Seq) - boolNumber(a.Seq < b.Seq)
}

// rankOf returns the rank of a record with a value for the key.
func rankOf(s api.Schema, r api.Rec) api.Rank { return rank(r.Row[s.Key], r.Seq) }

func sortRecs(s api.Schema, l []api.Rec) {
	slices.SortFunc(l, func(a, b api.Rec) int { return orderRanks(rankOf(s, a), rankOf(s, b)) })
}

// randomRecs returns n sorted records with few different values, so that many keys are equal.
func randomRecs(r *rand.Rand, s api.Schema, n int) []api.Rec {
	samples := make([][]api.Value, len(s.Columns))
	for i, c := range s.Columns {
		all := sampleValues(c)
		r.Shuffle(len(all), func(i, j int) { all[i], all[j] = all[j], all[i] })
		samples[i] = all[:1+r.Intn(len(all))]
	}
	steps := []int64{1, 2, 1000, api.MaxSeq / int64(n)}
	step := steps[r.Intn(len(steps))]
	l := make([]api.Rec, n)
	for i, place := range r.Perm(n) {
		l[i].Seq = int64(place) * step
		if place == n-1 && step > 1000 {
			l[i].Seq = api.MaxSeq
		}
		for _, values := range samples {
			l[i].Row = append(l[i].Row, values[r.Intn(len(values))])
		}
	}
	sortRecs(s, l)
	return l
}

// valuesOf returns the values of column i of the records, or their sequence numbers if there is no such column.
func valuesOf(s api.Schema, l []api.Rec, i int) []api.Value {
	values := []api.Value{}
	for _, r := range l {
		if i == len(s.Columns) {
			values = append(values, number(r.Seq))
		} else {
			values = append(values, r.Row[i])
		}
	}
	return values
}

// columnOf returns column i, or that of the sequence numbers if there is no such column.
func columnOf(s api.Schema, i int) api.Column {
	if i == len(s.Columns) {
		return column("seq", api.Int, false)
	}
	return s.Columns[i]
}

// slowZone sorts the values that are not null.
func slowZone(values []api.Value) api.Zone {
	present := slices.DeleteFunc(slices.Clone(values), func(v api.Value) bool { return v.Null })
	slices.SortFunc(present, orderValues)
	z := api.Zone{Rows: len(values), Nulls: len(values) - len(present), Min: null(), Max: null()}
	if len(present) > 0 {
		z.Min, z.Max = present[0], present[len(present)-1]
	}
	return z
}

// infoOf returns what the footer of sorted records has to say.
func infoOf(s api.Schema, l []api.Rec) api.Info {
	info := api.Info{Rows: len(l), Lo: rankOf(s, l[0]), Hi: rankOf(s, l[len(l)-1])}
	for i := range s.Columns {
		info.Zones = append(info.Zones, slowZone(valuesOf(s, l, i)))
	}
	return info
}

// unsigned returns a number of variable length, which Go's library writes.
func unsigned(n uint64) string { return string(binary.AppendUvarint(nil, n)) }

func word(n uint32) string { return string(binary.LittleEndian.AppendUint32(nil, n)) }

func sumOf(s string) uint32 {
	return crc32.Checksum([]byte(s), crc32.MakeTable(crc32.Castagnoli))
}

func idOf(s api.Schema) string {
	text, _ := schema.Format(s)
	return word(sumOf(text))
}

// putValue returns the binary form of a value.
func putValue(v api.Value) string {
	if v.Null {
		return "\x00"
	}
	return "\x01" + string(binary.AppendVarint(nil, v.N)) + unsigned(uint64(len(v.S))) + v.S
}

func putZone(z api.Zone) string {
	return unsigned(uint64(z.Rows)) + unsigned(uint64(z.Nulls)) + putValue(z.Min) + putValue(z.Max)
}

func putRank(r api.Rank) string { return putValue(r.Key) + unsigned(uint64(r.Seq)) }

// chunkOf returns the chunk of a column; the values have to be valid.
func chunkOf(t *testing.T, c api.Column, values []api.Value) string {
	t.Helper()
	s, e := chunk.Encode(c, values)
	if e != api.OK {
		t.Fatalf("no chunk of %v: %d", c, e)
	}
	return s
}

// parts are all parts of a file, each of which a test may change.
type parts struct {
	first, last          string   // "MPT1" twice
	id, rows, lo, hi     string   // of the footer
	sizes, zones, chunks []string // of the columns; sizes and chunks also of the sequence numbers
	more                 string   // in the footer, before the checksum
	sumMask              uint32   // what is wrong in the checksum
	lengthMore           int      // how much too great the length is
}

// partsOf returns the parts of the file of sorted records.
func partsOf(t *testing.T, s api.Schema, l []api.Rec) parts {
	t.Helper()
	info := infoOf(s, l)
	p := parts{first: "MPT1", last: "MPT1", id: idOf(s), rows: unsigned(uint64(len(l))), lo: putRank(info.Lo), hi: putRank(info.Hi)}
	for i := range len(s.Columns) + 1 {
		p.chunks = append(p.chunks, chunkOf(t, columnOf(s, i), valuesOf(s, l, i)))
	}
	for _, z := range info.Zones {
		p.zones = append(p.zones, putZone(z))
	}
	return p.measured()
}

// clone returns parts that share no list with p.
func (p parts) clone() parts {
	p.sizes, p.zones, p.chunks = slices.Clone(p.sizes), slices.Clone(p.zones), slices.Clone(p.chunks)
	return p
}

// measured returns the parts with the sizes of the chunks.
func (p parts) measured() parts {
	p = p.clone()
	p.sizes = nil
	for _, s := range p.chunks {
		p.sizes = append(p.sizes, unsigned(uint64(len(s))))
	}
	return p
}

// with returns the parts after a change.
func (p parts) with(change func(p *parts)) parts {
	p = p.clone()
	change(&p)
	return p
}

// withChunk returns the parts with another chunk and its size.
func (p parts) withChunk(i int, s string) parts {
	return p.with(func(p *parts) { p.chunks[i] = s }).measured()
}

// content returns the footer up to the checksum.
func (p parts) content() string {
	return p.id + p.rows + strings.Join(p.sizes, "") + strings.Join(p.zones, "") + p.lo + p.hi + p.more
}

// file puts the parts together.
func (p parts) file() string {
	footer := p.content() + word(sumOf(p.content())^p.sumMask)
	return p.first + strings.Join(p.chunks, "") + footer + word(uint32(len(footer)+p.lengthMore)) + p.last
}

// framed returns a file with a footer that is given up to its checksum.
func framed(data, content string) string {
	return "MPT1" + data + content + word(sumOf(content)) + word(uint32(len(content)+4)) + "MPT1"
}

// cutter reads parts from the beginning of a string, in whichever way they are written.
type cutter struct {
	rest string
	bad  bool
}

func (c *cutter) bytes(n uint64) string {
	if n > uint64(len(c.rest)) {
		c.bad = true
		return ""
	}
	s := c.rest[:n]
	c.rest = c.rest[n:]
	return s
}

func (c *cutter) number() uint64 {
	n, size := binary.Uvarint([]byte(c.rest))
	if size <= 0 {
		c.bad = true
		return 0
	}
	c.rest = c.rest[size:]
	return n
}

func (c *cutter) value() api.Value {
	if c.bytes(1) == "\x00" {
		return null()
	}
	n, size := binary.Varint([]byte(c.rest))
	if size <= 0 {
		c.bad = true
		return api.Value{}
	}
	c.rest = c.rest[size:]
	return api.Value{N: n, S: c.bytes(c.number())}
}

// slowFooter reads a footer after the schema.Id without much care, and returns what it says, the
// sizes of the chunks, and how the footer is to be written, so that all faults of the form are found.
func slowFooter(s api.Schema, footer string) (info api.Info, sizes []uint64, written string, ok bool) {
	c := &cutter{rest: footer}
	rows := c.number()
	written = unsigned(rows)
	info.Rows = int(rows)
	for range len(s.Columns) + 1 {
		sizes = append(sizes, c.number())
		written += unsigned(sizes[len(sizes)-1])
	}
	for range s.Columns {
		z := api.Zone{Rows: int(c.number()), Nulls: int(c.number()), Min: c.value(), Max: c.value()}
		info.Zones = append(info.Zones, z)
		written += putZone(z)
	}
	for _, r := range []*api.Rank{&info.Lo, &info.Hi} {
		*r = api.Rank{Key: c.value(), Seq: int64(c.number())}
		written += putRank(*r)
	}
	return info, sizes, written, !c.bad
}

// slowValid reports whether a footer that has its form is one of promise 16.2.
func slowValid(s api.Schema, info api.Info, sizes []uint64, room int) bool {
	for _, size := range sizes {
		if size > uint64(room) {
			return false
		}
		room -= int(size)
	}
	for i, z := range info.Zones {
		if !zone.Check(s.Columns[i], z) || z.Rows != info.Rows {
			return false
		}
	}
	for _, r := range []api.Rank{info.Lo, info.Hi} {
		if value.Check(s.Columns[s.Key], r.Key) != api.OK || r.Seq < 0 || r.Seq > 1<<40 {
			return false
		}
	}
	return room == 0 && info.Rows >= 1 && info.Rows <= 1024 && orderRanks(info.Lo, info.Hi) <= 0
}

// slowInfo returns what promise 16.2 requires, and the chunks.
func slowInfo(s api.Schema, file string) (api.Info, []string, api.Errno) {
	if e := schema.Check(s); e != api.OK {
		return api.Info{}, nil, e
	}
	if len(file) < 12 {
		return api.Info{}, nil, api.ErrShort
	}
	end := len(file) - 8
	size := int(binary.LittleEndian.Uint32([]byte(file[end:])))
	if size+12 > len(file) {
		return api.Info{}, nil, api.ErrShort
	}
	if file[:4] != "MPT1" || file[end+4:] != "MPT1" || size < 8 {
		return api.Info{}, nil, api.ErrForm
	}
	footer := file[end-size : end]
	content := footer[:size-4]
	if content+word(sumOf(content)) != footer {
		return api.Info{}, nil, api.ErrSum
	}
	if content[:4] != idOf(s) {
		return api.Info{}, nil, api.ErrArg
	}
	info, sizes, written, ok := slowFooter(s, content[4:])
	data := file[4 : end-size]
	if !ok || written != content[4:] || !slowValid(s, info, sizes, len(data)) {
		return api.Info{}, nil, api.ErrForm
	}
	chunks := []string{}
	for _, size := range sizes {
		chunks = append(chunks, data[:size])
		data = data[size:]
	}
	return info, chunks, api.OK
}

// slowColumn returns what promise 16.3 requires.
func slowColumn(s api.Schema, file string, i int) ([]api.Value, api.Errno) {
	info, chunks, e := slowInfo(s, file)
	if e != api.OK {
		return nil, e
	}
	if i < 0 || i > len(s.Columns) {
		return nil, api.ErrRange
	}
	values, e := chunk.Decode(columnOf(s, i), chunks[i])
	if e != api.OK {
		return nil, e
	}
	if len(values) != info.Rows {
		return nil, api.ErrForm
	}
	return values, api.OK
}

// slowRecs returns what promise 16.4 requires.
func slowRecs(s api.Schema, file string) ([]api.Rec, api.Errno) {
	info, _, e := slowInfo(s, file)
	if e != api.OK {
		return nil, e
	}
	l := make([]api.Rec, info.Rows)
	for i := range len(s.Columns) + 1 {
		values, e := slowColumn(s, file, i)
		if e != api.OK {
			return nil, e
		}
		for at, v := range values {
			if i == len(s.Columns) {
				l[at].Seq = v.N
			} else {
				l[at].Row = append(l[at].Row, v)
			}
		}
	}
	for i, r := range l {
		if r.Seq < 0 || r.Seq > 1<<40 || i > 0 && orderRanks(rankOf(s, l[i-1]), rankOf(s, r)) >= 0 {
			return nil, api.ErrForm
		}
	}
	if !sameInfo(infoOf(s, l), info) {
		return nil, api.ErrForm
	}
	return l, api.OK
}

// slowBound adds up the bytes as promise 16.5 words it.
func slowBound(s api.Schema, n int) int {
	bound := 192 + 10*n + (n+7)/8
	for _, c := range s.Columns {
		v, m := 12, 10
		if c.Type == api.Bytes {
			v, m = 67, 65
		}
		bound += 16 + 2*v + n*m + (n+7)/8
	}
	return bound
}

func sameInfo(a, b api.Info) bool {
	return a.Rows == b.Rows && slices.Equal(a.Zones, b.Zones) && a.Lo == b.Lo && a.Hi == b.Hi
}

func sameRecs(a, b []api.Rec) bool {
	return slices.EqualFunc(a, b, func(a, b api.Rec) bool { return a.Seq == b.Seq && slices.Equal(a.Row, b.Row) })
}

// deepCopy returns the records with rows of their own.
func deepCopy(l []api.Rec) []api.Rec {
	c := slices.Clone(l)
	for i := range c {
		c[i].Row = slices.Clone(c[i].Row)
	}
	return c
}

func sameSchema(a, b api.Schema) bool { return a.Key == b.Key && slices.Equal(a.Columns, b.Columns) }

func copySchema(s api.Schema) api.Schema {
	return api.Schema{Columns: slices.Clone(s.Columns), Key: s.Key}
}

func checkEncode(t *testing.T, s api.Schema, l []api.Rec, want string) {
	t.Helper()
	schemaBefore, before := copySchema(s), deepCopy(l)
	if file, e := mpart.Encode(s, l); e != api.OK || file != want {
		t.Fatalf("Encode(%+v, %d records) = %x, %d, want %x", s, len(l), file, e, want)
	}
	if !sameSchema(s, schemaBefore) || !sameRecs(l, before) {
		t.Fatalf("Encode changed the schema %+v or the %d records", s, len(l))
	}
}

func checkEncodeError(t *testing.T, name string, s api.Schema, l []api.Rec, want api.Errno) {
	t.Helper()
	if file, e := mpart.Encode(s, l); file != "" || e != want {
		t.Errorf("%s: Encode of %d records = %d bytes, %d, want %d", name, len(l), len(file), e, want)
	}
}

func checkInfo(t *testing.T, name string, s api.Schema, file string, want api.Info, wantErr api.Errno) {
	t.Helper()
	if info, e := mpart.Info(s, file); e != wantErr || !sameInfo(info, want) {
		t.Errorf("%s: Info(%+v, %x) = %+v, %d, want %+v, %d", name, s, file, info, e, want, wantErr)
	}
}

func checkColumn(t *testing.T, name string, s api.Schema, file string, i int, want []api.Value, wantErr api.Errno) {
	t.Helper()
	if l, e := mpart.Column(s, file, i); e != wantErr || !slices.Equal(l, want) {
		t.Errorf("%s: Column(%+v, %x, %d) = %+v, %d, want %+v, %d", name, s, file, i, l, e, want, wantErr)
	}
}

func checkRecs(t *testing.T, name string, s api.Schema, file string, want []api.Rec, wantErr api.Errno) {
	t.Helper()
	if l, e := mpart.Recs(s, file); e != wantErr || !sameRecs(l, want) {
		t.Errorf("%s: Recs(%+v, %x) = %+v, %d, want %+v, %d", name, s, file, l, e, want, wantErr)
	}
}

// checkRefused expects an error of Info from all functions that read a file, whatever the column.
func checkRefused(t *testing.T, name string, s api.Schema, file string, want api.Errno) {
	t.Helper()
	before := copySchema(s)
	checkInfo(t, name, s, file, api.Info{}, want)
	for i := -1; i <= len(s.Columns)+1; i++ {
		checkColumn(t, name, s, file, i, nil, want)
	}
	checkRecs(t, name, s, file, nil, want)
	if !sameSchema(s, before) {
		t.Errorf("%s: the schema %+v was changed", name, before)
	}
}

// checkFile compares all functions that read a file with the slow ones. It returns the error of Recs.
func checkFile(t *testing.T, name string, s api.Schema, file string) api.Errno {
	t.Helper()
	info, _, e := slowInfo(s, file)
	checkInfo(t, name, s, file, info, e)
	for i := -1; i <= len(s.Columns)+1; i++ {
		values, e := slowColumn(s, file, i)
		checkColumn(t, name, s, file, i, values, e)
	}
	l, e := slowRecs(s, file)
	checkRecs(t, name, s, file, l, e)
	return e
}

// checkGood checks a file that has to be read without an error.
func checkGood(t *testing.T, name string, s api.Schema, file string) {
	t.Helper()
	if e := checkFile(t, name, s, file); e != api.OK {
		t.Errorf("%s: the slow functions refuse the file with %d", name, e)
	}
}

// fewRecs returns records for textAndKey.
func fewRecs() []api.Rec {
	return []api.Rec{
		rec(5, bytesOf("x"), number(-1)),
		rec(2, null(), number(4)),
		rec(api.MaxSeq, bytesOf("a"), number(4)),
		rec(0, bytesOf("ab"), number(300)),
	}
}

// Promise 16.1 and the example, with all bytes written out.
func TestTheShortestFile(t *testing.T) {
	file := "MPT1" +
		"\x01\x01\x00\x00\x01\x73\x63\x30" + "\x01\x01\x00\x00\x01\x73\x63\x30" +
		"\x31\x00\x31\x1f" + "\x01" + "\x08\x08" + "\x01\x00\x01\x00\x00\x01\x00\x00" + "\x01\x00\x00\x00" + "\x01\x00\x00\x00" +
		"\xe2\x23\xad\x54" + "\x1b\x00\x00\x00" + "MPT1"
	l := []api.Rec{rec(0, number(0))}
	checkEncode(t, strictKey(), l, file)
	zero := rank(number(0), 0)
	checkInfo(t, "shortest", strictKey(), file, api.Info{Rows: 1, Zones: []api.Zone{{Rows: 1}}, Lo: zero, Hi: zero}, api.OK)
	checkColumn(t, "shortest", strictKey(), file, 0, []api.Value{number(0)}, api.OK)
	checkColumn(t, "shortest", strictKey(), file, 1, []api.Value{number(0)}, api.OK)
	checkRecs(t, "shortest", strictKey(), file, l, api.OK)
}

// Promise 16.1: the parts of a file whose key is not its first column.
func TestKnownParts(t *testing.T) {
	s := textAndKey()
	file, e := mpart.Encode(s, fewRecs())
	if e != api.OK {
		t.Fatal(e)
	}
	texts := chunkOf(t, s.Columns[0], []api.Value{bytesOf("x"), null(), bytesOf("a"), bytesOf("ab")})
	keys := chunkOf(t, s.Columns[1], []api.Value{number(-1), number(4), number(4), number(300)})
	seqs := chunkOf(t, column("seq", api.Int, false), []api.Value{number(5), number(2), number(api.MaxSeq), number(0)})
	content := word(sumOf("s bytes null\nk int\nkey k\n")) + "\x04" +
		string([]byte{byte(len(texts)), byte(len(keys)), byte(len(seqs))}) +
		"\x04\x01\x01\x00\x01a\x01\x00\x01x" + "\x04\x00\x01\x01\x00\x01\xd8\x04\x00" +
		"\x01\x01\x00\x05" + "\x01\xd8\x04\x00\x00"
	if want := framed(texts+keys+seqs, content); file != want {
		t.Errorf("the file is %x, want %x", file, want)
	}
}

// Promises 16.1 to 16.4 and the first consequence: random records of many schemas.
func TestFilesOfRandomRecords(t *testing.T) {
	r := rand.New(rand.NewSource(161))
	for _, s := range manySchemas() {
		for _, n := range []int{1, 1, 2, 3, 5, 7, 8, 9, 17, 64, 100} {
			l := randomRecs(r, s, n)
			file := partsOf(t, s, l).file()
			checkEncode(t, s, l, file)
			checkInfo(t, "random", s, file, infoOf(s, l), api.OK)
			for i := range len(s.Columns) + 1 {
				checkColumn(t, "random", s, file, i, valuesOf(s, l, i), api.OK)
			}
			checkRecs(t, "random", s, file, l, api.OK)
			checkGood(t, "random", s, file)
		}
	}
}

// Promises 16.1 to 16.5: files of the greatest number of rows.
func TestFilesOfManyRows(t *testing.T) {
	r := rand.New(rand.NewSource(162))
	for _, s := range []api.Schema{strictKey(), textAndKey(), wideSchema(4), wideSchema(10)} {
		for _, n := range []int{255, 256, 1023, api.MaxRows} {
			l := randomRecs(r, s, n)
			file := partsOf(t, s, l).file()
			checkEncode(t, s, l, file)
			checkInfo(t, "many rows", s, file, infoOf(s, l), api.OK)
			checkRecs(t, "many rows", s, file, l, api.OK)
		}
	}
}

// manyRecs returns n records for strictKey.
func manyRecs(n int) []api.Rec {
	l := make([]api.Rec, n)
	for i := range l {
		l[i] = rec(int64(i), number(0))
	}
	return l
}

// Promise 16.1: the error of the schema comes first, then ErrFull.
func TestEncodeErrorsOfSchemasAndNumbers(t *testing.T) {
	for _, q := range invalidSchemas() {
		for _, l := range [][]api.Rec{nil, manyRecs(1), manyRecs(api.MaxRows + 1), {rec(-1)}} {
			checkEncodeError(t, "invalid schema", q.s, l, q.e)
		}
	}
	s := strictKey()
	checkEncode(t, s, manyRecs(api.MaxRows), partsOf(t, s, manyRecs(api.MaxRows)).file())
	for _, n := range []int{api.MaxRows + 1, api.MaxRows + 2, api.MaxBatch, api.MaxBatch + 1} {
		checkEncodeError(t, "too many", s, manyRecs(n), api.ErrFull)
		checkEncodeError(t, "too many that are not valid", s, make([]api.Rec, n), api.ErrFull)
		unsorted := manyRecs(n)
		slices.Reverse(unsorted)
		checkEncodeError(t, "too many that are not sorted", s, unsorted, api.ErrFull)
	}
	checkEncodeError(t, "nil", s, nil, api.ErrArg)
	checkEncodeError(t, "none", s, []api.Rec{}, api.ErrArg)
}

// Promise 16.1: records that are not valid or not sorted.
func TestEncodeRefusesRecords(t *testing.T) {
	s := textAndKey()
	long := bytesOf(strings.Repeat("x", api.MaxBytes+1))
	for name, l := range map[string][]api.Rec{
		"keys descend":     {rec(1, null(), number(2)), rec(2, null(), number(1))},
		"numbers descend":  {rec(2, null(), number(1)), rec(1, null(), number(1))},
		"equal ranks":      {rec(2, null(), number(1)), rec(2, null(), number(1))},
		"equal ranks only": {rec(2, null(), number(1)), rec(2, bytesOf("a"), number(1))},
		"late disorder":    {rec(2, null(), number(1)), rec(3, null(), number(7)), rec(4, null(), number(5))},
		"number too low":   {rec(-1, null(), number(1))},
		"number too great": {rec(api.MaxSeq+1, null(), number(1))},
		"no row":           {rec(1)},
		"short row":        {rec(1, null())},
		"long row":         {rec(1, null(), number(1), number(1))},
		"null key":         {rec(1, null(), null())},
		"wrong type":       {rec(1, number(1), number(1))},
		"wrong key type":   {rec(1, null(), bytesOf("a"))},
		"leftover":         {rec(1, api.Value{Null: true, N: 1}, number(1))},
		"too long":         {rec(1, long, number(1))},
		"later record":     {rec(1, null(), number(1)), rec(2, long, number(2))},
	} {
		checkEncodeError(t, name, s, l, api.ErrArg)
		slices.Reverse(l)
		if name != "keys descend" && name != "numbers descend" {
			checkEncodeError(t, name+" reversed", s, l, api.ErrArg)
		}
	}
	nullable := schemaOf(0, column("k", api.Int, true))
	checkEncodeError(t, "null after a number", nullable, []api.Rec{rec(1, number(math.MinInt64)), rec(2, null())}, api.ErrArg)
}

// Promise 16.2: the error of the schema comes before all others.
func TestInvalidSchemas(t *testing.T) {
	good := partsOf(t, textAndKey(), fewRecs()).file()
	for _, q := range invalidSchemas() {
		for _, file := range []string{"", "MPT1", good, good[1:], "x" + good[1:], strings.Repeat("\x00", 100)} {
			checkRefused(t, "invalid schema", q.s, file, q.e)
		}
	}
}

// Promise 16.2: files that are too short for anything.
func TestFilesOfFewBytes(t *testing.T) {
	s := strictKey()
	for n := range 12 {
		for _, file := range []string{"MPT1MPT1MPT1", "MPT1\x00\x00\x00\x00MPT1", "\x00\x00\x00\x00\x00\x00\x00\x00\x00\x00\x00\x00", "MPT1\xff\xff\xff\xffMPT1"} {
			checkRefused(t, "first bytes", s, file[:n], api.ErrShort)
			checkRefused(t, "last bytes", s, file[12-n:], api.ErrShort)
		}
	}
	checkRefused(t, "no footer", s, "MPT1\x00\x00\x00\x00MPT1", api.ErrForm)
	checkRefused(t, "no marks", s, strings.Repeat("\x00", 12), api.ErrForm)
	for i := range 4 {
		length := []byte("\x00\x00\x00\x00")
		length[i] = 1
		checkRefused(t, "no room for a footer", s, "MPT1"+string(length)+"MPT1", api.ErrShort)
	}
}

// Promise 16.2: the length of the footer decides how many bytes a file has at least.
func TestLengthsOfFooters(t *testing.T) {
	s := strictKey()
	p := partsOf(t, s, []api.Rec{rec(1, number(2)), rec(3, number(4))})
	good := p.file()
	data := len(strings.Join(p.chunks, ""))
	checkGood(t, "good", s, good)
	for more, want := range map[int]api.Errno{
		1: api.ErrSum, -1: api.ErrSum, data: api.ErrSum, data + 1: api.ErrShort, data + 2: api.ErrShort,
		256: api.ErrShort, 1 << 16: api.ErrShort, 1 << 24: api.ErrShort, 1 << 31: api.ErrShort,
	} {
		file := p.with(func(p *parts) { p.lengthMore = more }).file()
		checkRefused(t, "length with "+strconv.Itoa(more), s, file, want)
		checkFile(t, "length with "+strconv.Itoa(more), s, file)
	}
	for n := range len(good) {
		file := good[len(good)-n:]
		want := api.ErrForm
		if n < len(good)-data {
			want = api.ErrShort
		}
		checkRefused(t, "last "+strconv.Itoa(n), s, file, want)
		checkRefused(t, "zeros before", s, strings.Repeat("\x00", len(good)-n)+file, api.ErrForm)
	}
	for length, tail := range []string{"\x00\x00\x00\x00", "\x01\x00\x00\x00", "\x02\x00\x00\x00", "\x03\x00\x00\x00", "\x04\x00\x00\x00", "\x05\x00\x00\x00", "\x06\x00\x00\x00", "\x07\x00\x00\x00"} {
		for _, before := range []string{strings.Repeat("\x00", 20), strings.Repeat("\x00", length), good[4 : len(good)-8]} {
			checkRefused(t, "short footer", s, "MPT1"+before+tail+"MPT1", api.ErrForm)
		}
	}
}

// Promise 16.2: a footer of eight bytes has nothing but a schema.Id and a checksum.
func TestFootersOfEightBytes(t *testing.T) {
	s := strictKey()
	id := idOf(s)
	checkRefused(t, "only the id", s, framed("", id), api.ErrForm)
	checkRefused(t, "another id", s, framed("", "\x00\x00\x00\x00"), api.ErrArg)
	checkRefused(t, "no checksum", s, "MPT1"+id+"\x00\x00\x00\x00\x08\x00\x00\x00MPT1", api.ErrSum)
	checkRefused(t, "data", s, framed("abc", id), api.ErrForm)
	sum := word(sumOf(""))
	checkRefused(t, "no id", s, "MPT1"+sum+"\x04\x00\x00\x00MPT1", api.ErrForm)
	sum = word(sumOf("abc"))
	checkRefused(t, "part of an id", s, "MPT1abc"+sum+"\x07\x00\x00\x00MPT1", api.ErrForm)
}

// Promise 16.2: a change of any byte of both ends.
func TestMarks(t *testing.T) {
	s := textAndKey()
	p := partsOf(t, s, fewRecs())
	for i := range 4 {
		for _, b := range []byte{0, '0', 'm', 'X', 0xff} {
			mark := []byte("MPT1")
			mark[i] = b
			checkRefused(t, "first mark", s, p.with(func(p *parts) { p.first = string(mark) }).file(), api.ErrForm)
			checkRefused(t, "last mark", s, p.with(func(p *parts) { p.last = string(mark) }).file(), api.ErrForm)
		}
	}
	checkRefused(t, "both marks", s, p.with(func(p *parts) { p.first, p.last = "1TPM", "1TPM" }).file(), api.ErrForm)
	file := p.file()
	checkRefused(t, "a byte more at the front", s, "M"+file, api.ErrForm)
	checkRefused(t, "a byte more in front of the chunks", s, "MPT1\x00"+file[4:], api.ErrForm)
	checkRefused(t, "a file before", s, file+file, api.ErrForm)
}

// Promise 16.2: a wrong checksum comes before a wrong schema.Id.
func TestChecksumsAndIds(t *testing.T) {
	s := textAndKey()
	p := partsOf(t, s, fewRecs())
	for i := range 32 {
		checkRefused(t, "checksum", s, p.with(func(p *parts) { p.sumMask = 1 << i }).file(), api.ErrSum)
		id := word(binary.LittleEndian.Uint32([]byte(p.id)) ^ 1<<i)
		checkRefused(t, "id", s, p.with(func(p *parts) { p.id = id }).file(), api.ErrArg)
	}
	content := []byte(p.content())
	for i := range content {
		content[i] ^= 0x40
		file := p.first + strings.Join(p.chunks, "") + string(content) + word(sumOf(p.content())) + word(uint32(len(content)+4)) + p.last
		checkRefused(t, "a byte of the footer", s, file, api.ErrSum)
		content[i] ^= 0x40
	}
	for name, other := range map[string]api.Schema{
		"nullable": schemaOf(1, column("s", api.Bytes, true), column("k", api.Int, true)),
		"name":     schemaOf(1, column("t", api.Bytes, true), column("k", api.Int, false)),
		"type":     schemaOf(1, column("s", api.Bytes, true), column("k", api.Date, false)),
		"key":      schemaOf(0, column("s", api.Bytes, true), column("k", api.Int, false)),
		"fewer":    strictKey(),
		"more":     schemaOf(1, column("s", api.Bytes, true), column("k", api.Int, false), column("l", api.Int, true)),
	} {
		checkRefused(t, name, other, p.file(), api.ErrArg)
	}
}

// Promise 16.2: of several errors the first one is returned.
func TestTheFirstErrorIsReturned(t *testing.T) {
	faults := []struct {
		e      api.Errno
		change func(p *parts)
	}{
		{api.ErrShort, func(p *parts) { p.lengthMore = 1000 }},
		{api.ErrForm, func(p *parts) { p.first = "MPT2" }},
		{api.ErrForm, func(p *parts) { p.last = "MPT0" }},
		{api.ErrSum, func(p *parts) { p.sumMask = 1 }},
		{api.ErrArg, func(p *parts) { p.id = "abcd" }},
		{api.ErrForm, func(p *parts) { p.rows = "\x00" }},
		{api.ErrForm, func(p *parts) { p.sizes[0] = "\xff" }},
		{api.ErrForm, func(p *parts) { p.more = "\x00" }},
		{api.ErrShort, func(p *parts) { p.chunks[0], p.sizes[0] = "abcd", "\x04" }},
		{api.ErrSum, func(p *parts) { p.chunks[1] = strings.Repeat("\x00", len(p.chunks[1])) }},
	}
	s := textAndKey()
	whole := partsOf(t, s, fewRecs())
	for set := range 1 << len(faults) {
		p, want := whole.clone(), api.OK
		for i := len(faults) - 1; i >= 0; i-- {
			if set>>i&1 == 1 {
				faults[i].change(&p)
				want = faults[i].e
			}
		}
		file := p.file()
		if set&255 != 0 {
			checkRefused(t, "faults "+strconv.Itoa(set), s, file, want)
			continue
		}
		checkInfo(t, "chunks", s, file, infoOf(s, fewRecs()), api.OK)
		if l, e := mpart.Recs(s, file); len(l) != 0 && want != api.OK || e != want {
			t.Errorf("Recs of a file with the faults %d: %v, %d, want %d", set, l, e, want)
		}
	}
}

// longNumber returns a number with a group more than necessary.
func longNumber(s string) string {
	return s[:len(s)-1] + string([]byte{s[len(s)-1] | 0x80, 0})
}

// wrongNumbers are no numbers at all, or greater than anything that a file has.
func wrongNumbers() []string {
	return []string{
		strings.Repeat("\xff", 10), strings.Repeat("\xff", 9) + "\x02", strings.Repeat("\xff", 9) + "\x01", strings.Repeat("\xff", 8) + "\x7f",
		strings.Repeat("\x80", 9) + "\x01", strings.Repeat("\x80", 9) + "\x00", "\x80\x00", "\x80\x80\x80\x80\x80\x40",
	}
}

// Promise 16.2: the number of rows, which the zones have too.
func TestNumbersOfRows(t *testing.T) {
	s := textAndKey()
	p := partsOf(t, s, fewRecs())
	withRows := func(rows, ofFirst, ofSecond string) string {
		return p.with(func(p *parts) {
			p.rows = rows
			p.zones[0] = ofFirst + "\x00\x01\x00\x01a\x01\x00\x01x"
			p.zones[1] = ofSecond + "\x00\x01\x01\x00\x01\x06\x00"
		}).file()
	}
	for _, n := range []int{2, 3, 4, 127, 128, 1023, 1024} {
		rows := unsigned(uint64(n))
		want := api.Info{Rows: n, Lo: rank(number(-1), 5), Hi: rank(number(300), 0)}
		want.Zones = []api.Zone{{Rows: n, Min: bytesOf("a"), Max: bytesOf("x")}, {Rows: n, Min: number(-1), Max: number(3)}}
		checkInfo(t, "rows", s, withRows(rows, rows, rows), want, api.OK)
		checkFile(t, "rows", s, withRows(rows, rows, rows))
		for _, other := range []string{unsigned(uint64(n + 1)), unsigned(uint64(n - 1)), unsigned(uint64(n) + 1<<32), unsigned(uint64(n) + 256)} {
			checkRefused(t, "rows of the first zone", s, withRows(rows, other, rows), api.ErrForm)
			checkRefused(t, "rows of the last zone", s, withRows(rows, rows, other), api.ErrForm)
			checkRefused(t, "rows of no zone", s, withRows(other, rows, rows), api.ErrForm)
		}
		checkRefused(t, "rows in too many bytes", s, withRows(longNumber(rows), rows, rows), api.ErrForm)
		checkRefused(t, "rows in too many bytes", s, withRows(rows, longNumber(rows), rows), api.ErrForm)
		checkRefused(t, "rows in too many bytes", s, withRows(rows, rows, longNumber(rows)), api.ErrForm)
	}
	for _, n := range []uint64{0, 1025, 1026, 2048, 4096, 4097, 1 << 32, 1<<32 + 4, 1 << 63, 1<<63 + 4, math.MaxUint64} {
		rows := unsigned(n)
		checkRefused(t, "wrong rows", s, withRows(rows, rows, rows), api.ErrForm)
	}
	for _, rows := range wrongNumbers() {
		checkRefused(t, "wrong rows", s, withRows(rows, rows, rows), api.ErrForm)
		checkRefused(t, "wrong rows", s, withRows(rows, "\x04", "\x04"), api.ErrForm)
	}
	noRows := p.with(func(p *parts) { p.rows, p.zones[0], p.zones[1] = "\x00", "\x00\x00\x00\x00", "\x00\x00\x00\x00" })
	checkRefused(t, "no rows", s, noRows.file(), api.ErrForm)
}

// Promise 16.2: the chunks fill the bytes before the footer, however these are divided.
func TestSizesOfChunks(t *testing.T) {
	s := textAndKey()
	p := partsOf(t, s, fewRecs())
	want := infoOf(s, fewRecs())
	room := len(strings.Join(p.chunks, ""))
	withSizes := func(sizes ...uint64) string {
		return p.with(func(p *parts) {
			for i, size := range sizes {
				p.sizes[i] = unsigned(size)
			}
		}).file()
	}
	all := uint64(room)
	for _, sizes := range [][]uint64{{all, 0, 0}, {0, all, 0}, {0, 0, all}, {1, 1, all - 2}, {all - 7, 4, 3}} {
		checkInfo(t, "divided in another way", s, withSizes(sizes...), want, api.OK)
		checkFile(t, "divided in another way", s, withSizes(sizes...))
	}
	for _, sizes := range [][]uint64{
		{all - 1, 0, 0}, {0, all - 1, 0}, {0, 0, all - 1}, {all + 1, 0, 0}, {0, all + 1, 0}, {0, 0, all + 1}, {all, 1, 0}, {all, 0, 1}, {1, all, 0},
		{0, 0, 0}, {1, 1, 1}, {all, all, all}, {all + 1, math.MaxUint64, 0}, {math.MaxUint64, all + 1, 0}, {all + 2, math.MaxUint64, math.MaxUint64},
		{0, all + 1, math.MaxUint64}, {1 << 63, 1 << 63, all}, {all, 1 << 63, 1 << 63}, {1 << 62, 3 << 62, all}, {1<<32 + all, 0, 0}, {0, 0, 1<<32 + all},
		{1 << 63, all, 0}, {1<<63 + all, 0, 0}, {0, 0, 1<<63 + all},
	} {
		checkRefused(t, "sizes", s, withSizes(sizes...), api.ErrForm)
	}
	for i := range p.sizes {
		for _, size := range append(wrongNumbers(), longNumber(p.sizes[i])) {
			checkRefused(t, "size", s, p.with(func(p *parts) { p.sizes[i] = size }).file(), api.ErrForm)
		}
	}
	none := p.with(func(p *parts) { clear(p.chunks) }).measured()
	checkInfo(t, "no bytes", s, none.file(), want, api.OK)
	checkColumn(t, "no bytes", s, none.file(), 2, nil, api.ErrShort)
	checkRefused(t, "a byte less", s, none.file()[1:], api.ErrShort)
	checkRefused(t, "sizes without bytes", s, none.with(func(p *parts) { p.sizes[2] = "\x01" }).file(), api.ErrForm)
}

// Promise 16.2: zones that are not valid, in each of the columns.
func TestZones(t *testing.T) {
	zones := []api.Zone{
		{Rows: 4, Min: null(), Max: null()}, {Rows: 4, Nulls: 5, Min: null(), Max: null()}, {Rows: 4, Nulls: 4}, {Rows: 4, Nulls: 4, Min: null()}, {Rows: 4, Nulls: 4, Max: null()},
		{Rows: 4, Nulls: 2, Min: null(), Max: number(1)}, {Rows: 4, Min: number(2), Max: number(1)}, {Rows: 4, Nulls: 3, Min: number(1), Max: number(2)},
		{Rows: 4, Min: bytesOf("b"), Max: bytesOf("a")}, {Rows: 4, Nulls: 3, Min: bytesOf("a"), Max: bytesOf("b")},
		{Rows: 4, Min: bytesOf("a"), Max: bytesOf(strings.Repeat("b", 65))}, {Rows: 4, Min: number(1), Max: api.Value{N: 2, S: "x"}},
		{Rows: 4, Nulls: 1, Min: number(1), Max: number(1)}, {Rows: 4, Nulls: 4, Min: null(), Max: null()}, {Rows: 4, Nulls: 3, Min: number(7), Max: number(7)},
		{Rows: 4, Min: number(math.MinInt64), Max: number(math.MaxInt64)}, {Rows: 4, Min: bytesOf(""), Max: bytesOf(strings.Repeat("b", 64))},
		{Rows: 4, Min: number(-api.MaxDecimal), Max: number(api.MaxDecimal)}, {Rows: 4, Min: number(0), Max: number(api.MaxDecimal + 1)},
		{Rows: 4, Min: number(api.MinDate), Max: number(api.MaxDate)}, {Rows: 4, Min: number(0), Max: number(api.MaxDate + 1)},
		{Rows: 4, Min: number(0), Max: number(1)}, {Rows: 4, Min: number(-1), Max: number(0)}, {Rows: 4, Nulls: 2, Min: number(0), Max: number(0)},
		{Rows: 3, Min: number(0), Max: number(0)}, {Rows: 5, Min: number(0), Max: number(0)}, {Min: null(), Max: null()},
	}
	for _, s := range []api.Schema{textAndKey(), wideSchema(3)} {
		r := rand.New(rand.NewSource(163))
		l := randomRecs(r, s, 4)
		p := partsOf(t, s, l)
		for i, c := range s.Columns {
			for _, z := range zones {
				file := p.with(func(p *parts) { p.zones[i] = putZone(z) }).file()
				if !zone.Check(c, z) || z.Rows != 4 {
					checkRefused(t, "zone", s, file, api.ErrForm)
					continue
				}
				want := infoOf(s, l)
				want.Zones[i] = z
				checkInfo(t, "zone", s, file, want, api.OK)
				checkFile(t, "zone", s, file)
			}
		}
	}
}

// Promise 16.2: zones that do not have the form of zone.Put.
func TestFormsOfZones(t *testing.T) {
	s := textAndKey()
	p := partsOf(t, s, fewRecs())
	for i := range s.Columns {
		for _, z := range []string{
			"", "\x04", "\x84\x00\x01\x01\x00\x00\x01\x00\x00", "\x04\x81\x00\x00\x00", "\x04\x04\x02\x00", "\x04\x04\x00\x02", "\x04\x04\x00\xff",
			"\x04\x81\x20\x00\x00", "\x04\x00\x01\x80\x00\x00\x01\x00\x00", "\x04\x00\x01\x00\x80\x00\x01\x00\x00", "\x04\x04\x00\x00\x00",
			"\x04\x00\x01\x00" + strings.Repeat("\xff", 9) + "\x01", "\x04\x00\x01" + strings.Repeat("\xff", 11), "\x04" + strings.Repeat("\xff", 11),
		} {
			checkRefused(t, "form of a zone", s, p.with(func(p *parts) { p.zones[i] = z }).file(), api.ErrForm)
		}
	}
}

type rankCase struct {
	name   string
	s      api.Schema
	lo, hi api.Rank
	ok     bool
}

// rankCases are Lo and Hi for columns of several types.
func rankCases() []rankCase {
	strict, nullable := textAndKey(), schemaOf(1, column("s", api.Bytes, false), column("k", api.Int, true))
	text, flag := schemaOf(0, column("s", api.Bytes, false), column("n", api.Int, true)), schemaOf(0, column("b", api.Bool, true))
	day, price := schemaOf(0, column("d", api.Date, false)), schemaOf(0, api.Column{Name: "p", Type: api.Decimal, Scale: 2})
	return []rankCase{
		{"a wide range", strict, rank(number(math.MinInt64), 0), rank(number(math.MaxInt64), 0), true},
		{"equal", strict, rank(number(3), 7), rank(number(3), 7), true},
		{"equal keys", strict, rank(number(3), 7), rank(number(3), 8), true},
		{"equal keys, greater number", strict, rank(number(3), 8), rank(number(3), 7), false},
		{"greater key, lesser number", strict, rank(number(4), 1), rank(number(3), 9), false},
		{"lesser key, greater number", strict, rank(number(3), 9), rank(number(4), 1), true},
		{"greatest numbers", strict, rank(number(3), api.MaxSeq), rank(number(4), api.MaxSeq), true},
		{"number of Hi", strict, rank(number(3), 0), rank(number(4), api.MaxSeq+1), false},
		{"number of Lo", strict, rank(number(3), api.MaxSeq+1), rank(number(4), 0), false},
		{"great number of Hi", strict, rank(number(3), 0), rank(number(4), math.MaxInt64), false},
		{"null Lo", strict, rank(null(), 0), rank(number(4), 0), false},
		{"null Hi", strict, rank(number(3), 0), rank(null(), 0), false},
		{"null keys", strict, rank(null(), 0), rank(null(), 0), false},
		{"null keys of a nullable column", nullable, rank(null(), 0), rank(null(), 1), true},
		{"null Lo of a nullable column", nullable, rank(null(), 9), rank(number(math.MinInt64), 1), true},
		{"null Hi of a nullable column", nullable, rank(number(math.MinInt64), 1), rank(null(), 9), false},
		{"text as Lo", strict, rank(bytesOf("a"), 0), rank(number(4), 0), false},
		{"text as Hi", strict, rank(number(3), 0), rank(bytesOf("a"), 0), false},
		{"texts", text, rank(bytesOf("ab"), 3), rank(bytesOf("b"), 2), true},
		{"texts in another order", text, rank(bytesOf("b"), 2), rank(bytesOf("ab"), 3), false},
		{"long texts", text, rank(bytesOf(""), 2), rank(bytesOf(strings.Repeat("x", 64)), 3), true},
		{"too long text", text, rank(bytesOf(""), 2), rank(bytesOf(strings.Repeat("x", 65)), 3), false},
		{"too long texts", text, rank(bytesOf(strings.Repeat("x", 65)), 2), rank(bytesOf("y"), 3), false},
		{"number as Lo of a text", text, rank(number(1), 2), rank(bytesOf("y"), 3), false},
		{"flags", flag, rank(number(0), 2), rank(number(1), 1), true},
		{"flag 2", flag, rank(number(0), 2), rank(number(2), 1), false},
		{"flag -1", flag, rank(number(-1), 2), rank(number(1), 1), false},
		{"days", day, rank(number(api.MinDate), 2), rank(number(api.MaxDate), 1), true},
		{"day too late", day, rank(number(api.MinDate), 2), rank(number(api.MaxDate+1), 1), false},
		{"day too early", day, rank(number(api.MinDate-1), 2), rank(number(api.MaxDate), 1), false},
		{"prices", price, rank(number(-api.MaxDecimal), 2), rank(number(api.MaxDecimal), 1), true},
		{"price too high", price, rank(number(-api.MaxDecimal), 2), rank(number(api.MaxDecimal+1), 1), false},
		{"price too low", price, rank(number(-api.MaxDecimal-1), 2), rank(number(api.MaxDecimal), 1), false},
	}
}

// Promise 16.2: the least and the greatest rank, which Info does not compare with the zones.
func TestRanks(t *testing.T) {
	for _, q := range rankCases() {
		l := randomRecs(rand.New(rand.NewSource(164)), q.s, 3)
		file := partsOf(t, q.s, l).with(func(p *parts) { p.lo, p.hi = putRank(q.lo), putRank(q.hi) }).file()
		if !q.ok {
			checkRefused(t, q.name, q.s, file, api.ErrForm)
			continue
		}
		want := infoOf(q.s, l)
		want.Lo, want.Hi = q.lo, q.hi
		checkInfo(t, q.name, q.s, file, want, api.OK)
		checkFile(t, q.name, q.s, file)
	}
}

// Promise 16.2: ranks that do not have their form, and sequence numbers that no int64 is.
func TestFormsOfRanks(t *testing.T) {
	s := textAndKey()
	p := partsOf(t, s, fewRecs())
	ranks := []string{"", "\x01", "\x01\x06", "\x01\x06\x00", "\x02\x06\x00\x00", "\xff", "\x01\x86\x00\x00\x00", "\x01\x06\x80\x00\x00", "\x01\x06\x01", "\x01\x06\x05abc\x00"}
	for _, n := range wrongNumbers() {
		ranks = append(ranks, "\x01\x06\x00"+n, "\x01\x06"+n, "\x01"+n)
	}
	for _, n := range []uint64{1<<40 + 1, 1<<40 + 2, 1 << 41, 1<<63 - 1, 1 << 63, 1<<63 + 1, 1<<63 + 1<<40, math.MaxUint64 - 1, math.MaxUint64} {
		ranks = append(ranks, "\x01\x06\x00"+unsigned(n))
	}
	for _, r := range ranks {
		checkRefused(t, "Lo "+strconv.Quote(r), s, p.with(func(p *parts) { p.lo, p.hi = r, "\x01\xfe\x01\x00\x01" }).file(), api.ErrForm)
		checkRefused(t, "Hi "+strconv.Quote(r), s, p.with(func(p *parts) { p.lo, p.hi = "\x01\x01\x00\x01", r }).file(), api.ErrForm)
	}
	for _, r := range []string{"\x01\x06\x00\x00", "\x01\x06\x00" + unsigned(1<<40)} {
		low, high := rank(number(-1), 1), rank(number(127), 1)
		seq, _ := binary.Uvarint([]byte(r[3:]))
		want := infoOf(s, fewRecs())
		want.Lo, want.Hi = rank(number(3), int64(seq)), high
		checkInfo(t, "good Lo", s, p.with(func(p *parts) { p.lo, p.hi = r, putRank(high) }).file(), want, api.OK)
		want.Lo, want.Hi = low, rank(number(3), int64(seq))
		checkInfo(t, "good Hi", s, p.with(func(p *parts) { p.lo, p.hi = putRank(low), r }).file(), want, api.OK)
	}
}

// Promise 16.2: a footer without a rank, whose bytes would make up two if they were read again from the number of rows on.
func TestAFooterThatEndsWithARankOfAnotherForm(t *testing.T) {
	s := schemaOf(0, column("k", api.Bytes, false))
	footer := "\x07" + "\x01\x00" + "\x07\x00\x01\x00\x00\x01\x00\x00"
	good := putRank(rank(bytesOf(""), 7)) + putRank(rank(bytesOf(""), 8))
	if info, e := mpart.Info(s, framed("x", idOf(s)+footer+good)); e != api.OK || info.Rows != 7 {
		t.Fatal(info, e)
	}
	checkRefused(t, "no rank", s, framed("x", idOf(s)+footer+"\x02"), api.ErrForm)
}

// Promise 16.2: a footer that ends too early, after each of its bytes, or too late.
func TestFootersOfOtherLengths(t *testing.T) {
	for _, s := range []api.Schema{strictKey(), textAndKey(), wideSchema(4)} {
		p := partsOf(t, s, randomRecs(rand.New(rand.NewSource(165)), s, 3))
		data, content := strings.Join(p.chunks, ""), p.content()
		for n := 4; n < len(content); n++ {
			checkRefused(t, "footer of "+strconv.Itoa(n), s, framed(data, content[:n]), api.ErrForm)
			checkRefused(t, "empty footer of "+strconv.Itoa(n), s, framed("", content[:n]), api.ErrForm)
		}
		for n := range 4 {
			checkRefused(t, "footer of "+strconv.Itoa(n), s, framed(data, content[:n]), api.ErrForm)
		}
		for _, more := range []string{"\x00", "\x01", "\x80", "MPT1", "\x00\x00\x00\x00", content} {
			checkRefused(t, "more", s, framed(data, content+more), api.ErrForm)
			checkRefused(t, "more", s, framed(data, content[:4]+more+content[4:]), api.ErrForm)
		}
		checkGood(t, "good", s, framed(data, content))
	}
}

// Promise 16.3: there are as many columns as in the schema, and one of the sequence numbers.
func TestNumbersOfColumns(t *testing.T) {
	for _, s := range []api.Schema{strictKey(), textAndKey(), wideSchema(4)} {
		l := randomRecs(rand.New(rand.NewSource(166)), s, 9)
		p := partsOf(t, s, l)
		n := len(s.Columns)
		damaged := p.with(func(p *parts) {
			for i := range p.chunks {
				p.chunks[i] = strings.Repeat("\x00", len(p.chunks[i]))
			}
		}).file()
		for _, file := range []string{p.file(), damaged} {
			for _, i := range []int{-1, -2, math.MinInt, n + 1, n + 2, 64, math.MaxInt, 1 << 32} {
				checkColumn(t, "no such column", s, file, i, nil, api.ErrRange)
			}
		}
		for i := range n + 1 {
			checkColumn(t, "column", s, p.file(), i, valuesOf(s, l, i), api.OK)
			checkColumn(t, "damaged", s, damaged, i, nil, api.ErrSum)
		}
	}
}

// wrongChunk is a chunk of the wrong kind, with the error that Column has for it.
type wrongChunk struct {
	name, s string
	e       api.Errno
}

// wrongChunks returns chunks that do not fit a column of a file with n rows.
func wrongChunks(t *testing.T, c api.Column, n int) []wrongChunk {
	t.Helper()
	least := sampleValues(c)[0]
	good := chunkOf(t, c, slices.Repeat([]api.Value{least}, n))
	fewer, more := chunkOf(t, c, slices.Repeat([]api.Value{least}, n-1)), chunkOf(t, c, slices.Repeat([]api.Value{least}, n+1))
	summed := func(s string) string { return s + word(sumOf(s)) }
	l := []wrongChunk{
		{"empty", "", api.ErrShort},
		{"a byte", "\x01", api.ErrShort},
		{"four bytes", "\x01\x00\x00\x00", api.ErrShort},
		{"fewer values", fewer, api.ErrForm},
		{"more values", more, api.ErrForm},
		{"no values", chunkOf(t, c, nil), api.ErrForm},
		{"as many values as there may be", chunkOf(t, c, slices.Repeat([]api.Value{least}, api.MaxBatch)), api.ErrForm},
		{"damaged", "\x07" + good[1:], api.ErrSum},
		{"end missing", good[:len(good)-1], api.ErrSum},
		{"damaged, fewer values", fewer[:len(fewer)-1] + string([]byte{fewer[len(fewer)-1] ^ 1}), api.ErrSum},
		{"no codec", summed("\x09" + good[1:len(good)-4]), api.ErrForm},
		{"a byte more", summed(good[:len(good)-4] + "\x00"), api.ErrForm},
	}
	if !c.Nullable {
		nullable := c
		nullable.Nullable = true
		l = append(l, wrongChunk{"null values", chunkOf(t, nullable, slices.Repeat([]api.Value{null()}, n)), api.ErrForm})
	}
	return l
}

// Promises 16.3 and 16.4: the errors of chunks, which Info does not see, and other columns do not have.
func TestErrorsOfChunks(t *testing.T) {
	for _, s := range []api.Schema{strictKey(), textAndKey(), wideSchema(7)} {
		l := randomRecs(rand.New(rand.NewSource(167)), s, 5)
		p := partsOf(t, s, l)
		for i := range len(s.Columns) + 1 {
			for _, wrong := range wrongChunks(t, columnOf(s, i), 5) {
				file := p.withChunk(i, wrong.s).file()
				checkInfo(t, wrong.name, s, file, infoOf(s, l), api.OK)
				checkColumn(t, wrong.name, s, file, i, nil, wrong.e)
				checkRecs(t, wrong.name, s, file, nil, wrong.e)
				for j := range len(s.Columns) + 1 {
					if j != i {
						checkColumn(t, wrong.name, s, file, j, valuesOf(s, l, j), api.OK)
					}
				}
			}
		}
	}
}

// Promise 16.4: the error of the first column that has one is returned, that of the sequence numbers last, and all of them before that of the records.
func TestRecsReturnsTheErrorOfTheFirstColumn(t *testing.T) {
	for _, s := range []api.Schema{strictKey(), textAndKey(), wideSchema(7)} {
		p := partsOf(t, s, randomRecs(rand.New(rand.NewSource(168)), s, 5))
		fewer, short, damaged := chunkOf(t, strictKey().Columns[0], nil), "abcd", "abcdefgh"
		chunks := []wrongChunk{{"fewer", fewer, api.ErrForm}, {"short", short, api.ErrShort}, {"damaged", damaged, api.ErrSum}}
		for i := range len(s.Columns) + 1 {
			for j := range len(s.Columns) + 1 {
				for _, a := range chunks {
					for _, b := range chunks {
						first := a.e
						if j < i {
							first = b.e
						}
						if i != j {
							checkRecs(t, a.name+" and "+b.name, s, p.withChunk(i, a.s).withChunk(j, b.s).file(), nil, first)
						}
					}
				}
			}
			for _, a := range chunks {
				for j, z := range p.zones {
					lower := p.withChunk(i, a.s).with(func(p *parts) { p.zones[j] = z[:1] + "\x00" + z[2:] })
					checkFile(t, a.name+" and a zone", s, lower.file())
				}
				checkRecs(t, a.name+" and a rank", s, p.withChunk(i, a.s).with(func(p *parts) { p.lo = p.hi }).file(), nil, a.e)
			}
		}
	}
}

// plainChunk returns the chunk of a column of type Int with the codec Plain, also if another codec takes fewer bytes.
func plainChunk(numbers ...int64) string {
	s := "\x01" + unsigned(uint64(len(numbers))) + "\x00"
	for _, n := range numbers {
		s += string(binary.AppendVarint(nil, n))
	}
	return s + word(sumOf(s))
}

// Promises 16.3 and 16.4: chunks with any codec that the type uses are read.
func TestOtherCodecs(t *testing.T) {
	s := strictKey()
	l := []api.Rec{rec(1, number(7)), rec(2, number(7)), rec(3, number(7)), rec(4, number(7))}
	p := partsOf(t, s, l)
	other := p.withChunk(0, plainChunk(7, 7, 7, 7)).withChunk(1, plainChunk(1, 2, 3, 4))
	if other.chunks[0] == p.chunks[0] || other.chunks[1] == p.chunks[1] {
		t.Fatal("the chunks have the codec Plain already")
	}
	for i := range 2 {
		checkColumn(t, "plain", s, other.file(), i, valuesOf(s, l, i), api.OK)
	}
	checkRecs(t, "plain", s, other.file(), l, api.OK)
}

// Promise 16.4: records that are not sorted or not valid, in files whose footers are right for them.
func TestRecsThatAreNotSorted(t *testing.T) {
	s := strictKey()
	for name, l := range map[string][]api.Rec{
		"keys":             {rec(1, number(1)), rec(2, number(3)), rec(3, number(2)), rec(4, number(4))},
		"numbers":          {rec(1, number(1)), rec(3, number(2)), rec(2, number(2)), rec(4, number(4))},
		"equal":            {rec(1, number(1)), rec(2, number(2)), rec(2, number(2)), rec(4, number(4))},
		"two equal":        {rec(1, number(1)), rec(1, number(1))},
		"number too low":   {rec(1, number(1)), rec(-1, number(2)), rec(4, number(4))},
		"number too great": {rec(1, number(1)), rec(api.MaxSeq+1, number(2)), rec(4, number(4))},
		"greatest number":  {rec(1, number(1)), rec(math.MaxInt64, number(2)), rec(4, number(4))},
		"least number":     {rec(1, number(1)), rec(math.MinInt64, number(2)), rec(4, number(4))},
	} {
		file := partsOf(t, s, l).file()
		checkInfo(t, name, s, file, infoOf(s, l), api.OK)
		checkColumn(t, name, s, file, 0, valuesOf(s, l, 0), api.OK)
		checkColumn(t, name, s, file, 1, valuesOf(s, l, 1), api.OK)
		checkRecs(t, name, s, file, nil, api.ErrForm)
	}
	reversed := []api.Rec{rec(1, number(1)), rec(2, number(2)), rec(3, number(3))}
	slices.Reverse(reversed)
	swap := func(p *parts) { p.lo, p.hi = p.hi, p.lo }
	checkRecs(t, "descending", s, partsOf(t, s, reversed).with(swap).file(), nil, api.ErrForm)
	good := []api.Rec{rec(api.MaxSeq, number(1)), rec(0, number(2)), rec(api.MaxSeq, number(2))}
	checkRecs(t, "sorted", s, partsOf(t, s, good).file(), good, api.OK)
}

// Promise 16.4: footers that would be right for other records.
func TestRecsOfOtherFooters(t *testing.T) {
	s := schemaOf(1, column("a", api.Int, true), column("k", api.Int, true), column("s", api.Bytes, true))
	l := []api.Rec{
		rec(4, number(5), null(), bytesOf("b")), rec(3, number(9), number(3), bytesOf("c")),
		rec(7, number(7), number(3), null()), rec(2, null(), number(8), bytesOf("d")),
	}
	p, info := partsOf(t, s, l), infoOf(s, l)
	checkRecs(t, "the right footer", s, p.file(), l, api.OK)
	change := func(name string, change func(info *api.Info)) {
		t.Helper()
		other := infoOf(s, l)
		change(&other)
		file := p.with(func(p *parts) {
			for i, z := range other.Zones {
				p.zones[i] = putZone(z)
			}
			p.lo, p.hi = putRank(other.Lo), putRank(other.Hi)
		}).file()
		checkInfo(t, name, s, file, other, api.OK)
		checkRecs(t, name, s, file, nil, api.ErrForm)
	}
	for i, z := range info.Zones {
		lower, higher := api.Value{N: z.Min.N - 1}, api.Value{N: z.Max.N + 1}
		if i == 2 {
			lower, higher = bytesOf("a"), bytesOf("e")
		}
		change("nulls", func(info *api.Info) { info.Zones[i].Nulls++ })
		change("no nulls", func(info *api.Info) { info.Zones[i].Nulls = 0 })
		change("lower Min", func(info *api.Info) { info.Zones[i].Min = lower })
		change("higher Min", func(info *api.Info) { info.Zones[i].Min = z.Max })
		change("higher Max", func(info *api.Info) { info.Zones[i].Max = higher })
		change("lower Max", func(info *api.Info) { info.Zones[i].Max = z.Min })
		change("null values", func(info *api.Info) { info.Zones[i] = api.Zone{Rows: 4, Nulls: 4, Min: null(), Max: null()} })
	}
	change("number of Lo", func(info *api.Info) { info.Lo.Seq++ })
	change("lower number of Lo", func(info *api.Info) { info.Lo.Seq-- })
	change("key of Lo", func(info *api.Info) { info.Lo.Key = number(3) })
	change("number of Hi", func(info *api.Info) { info.Hi.Seq++ })
	change("lower number of Hi", func(info *api.Info) { info.Hi.Seq-- })
	change("key of Hi", func(info *api.Info) { info.Hi.Key = number(9) })
	change("lower key of Hi", func(info *api.Info) { info.Hi.Key = number(7) })
	change("both", func(info *api.Info) { info.Lo = info.Hi })
}

// The second consequence: all changes of a single byte, except for the length of the footer.
func TestChangesOfSingleBytes(t *testing.T) {
	s := textAndKey()
	file := partsOf(t, s, fewRecs()).file()
	for i := range len(file) {
		isLength := i >= len(file)-8 && i < len(file)-4
		for mask := 1; mask < 256; mask++ {
			b := []byte(file)
			b[i] ^= byte(mask)
			if l, e := mpart.Recs(s, string(b)); !isLength && e == api.OK || e != api.OK && len(l) != 0 {
				t.Errorf("byte %d changed by %x: %v, %d", i, mask, l, e)
			}
			if isLength || mask&(mask-1) == 0 {
				checkFile(t, "changed byte", s, string(b))
			}
		}
	}
	for _, s := range []api.Schema{wideSchema(4), wideSchema(7)} {
		file := partsOf(t, s, randomRecs(rand.New(rand.NewSource(169)), s, 40)).file()
		for i := range len(file) - 8 {
			b := []byte(file)
			b[i] ^= 1 << (i % 8)
			if l, e := mpart.Recs(s, string(b)); e == api.OK || len(l) != 0 {
				t.Errorf("byte %d changed: %v, %d", i, l, e)
			}
		}
	}
}

// changed returns s with some of its bytes changed, removed or doubled.
func changed(r *rand.Rand, s string) string {
	for range 1 + r.Intn(2) {
		if s == "" {
			return "\x00"
		}
		at := r.Intn(len(s))
		switch r.Intn(4) {
		case 0:
			s = s[:at] + string([]byte{s[at] ^ 1<<r.Intn(8)}) + s[at+1:]
		case 1:
			s = s[:at] + s[at+1:]
		case 2:
			s = s[:at] + s[at:at+1] + s[at:]
		case 3:
			s = s[:at] + string([]byte{byte(r.Intn(4))}) + s[at+1:]
		}
	}
	return s
}

// changeOnePart changes one of the parts, some of them into one of another file.
func changeOnePart(r *rand.Rand, p, other parts) parts {
	p = p.clone()
	i, j := r.Intn(len(p.chunks)), r.Intn(len(p.zones))
	switch r.Intn(16) {
	case 0, 1:
		p.rows = changed(r, p.rows)
	case 2, 3:
		p.sizes[i] = changed(r, p.sizes[i])
	case 4, 5:
		p.zones[j] = changed(r, p.zones[j])
	case 6, 7:
		p.zones[j] = other.zones[j]
	case 8:
		p.lo = changed(r, p.lo)
	case 9:
		p.hi = changed(r, p.hi)
	case 10:
		p.lo = other.lo
	case 11:
		p.hi = other.hi
	case 12, 13:
		return p.withChunk(i, other.chunks[i])
	case 14:
		p.chunks[i] = changed(r, p.chunks[i])
		return p.measured()
	case 15:
		p.more = p.rows
	}
	return p
}

// Promises 16.2 to 16.4: files with good checksums whose parts were changed.
func TestFilesWithChangedParts(t *testing.T) {
	r := rand.New(rand.NewSource(1610))
	schemas := []api.Schema{strictKey(), textAndKey(), schemaOf(0, column("a", api.Bytes, true), column("b", api.Bool, true)), wideSchema(5)}
	counts := map[api.Errno]int{}
	for i := range 8000 {
		s := schemas[i%len(schemas)]
		n := 1 + r.Intn(4)
		p, other := partsOf(t, s, randomRecs(r, s, n)), partsOf(t, s, randomRecs(r, s, n+r.Intn(4)/3))
		for range 1 + r.Intn(2) {
			p = changeOnePart(r, p, other)
		}
		counts[checkFile(t, "changed parts", s, p.file())]++
	}
	for _, e := range []api.Errno{api.OK, api.ErrForm, api.ErrSum} {
		if counts[e] < 100 {
			t.Errorf("only %d files lead to error %d", counts[e], e)
		}
	}
}

// Promises 16.2 to 16.4: random bytes, and files with changes anywhere.
func TestRandomFiles(t *testing.T) {
	r := rand.New(rand.NewSource(1611))
	s := textAndKey()
	for range 6000 {
		b := make([]byte, r.Intn(40))
		for i := range b {
			b[i] = byte(r.Intn(1 << (1 + r.Intn(8))))
		}
		file := "MPT1" + string(b) + word(uint32(r.Intn(40))) + "MPT1"
		checkFile(t, "random bytes", s, file)
		checkFile(t, "random footer", s, framed("", idOf(s)+string(b)))
		checkFile(t, "changed file", s, changed(r, partsOf(t, s, randomRecs(r, s, 2)).file()))
	}
}

// Promise 16.5: known numbers, and the formula for all numbers of rows.
func TestBound(t *testing.T) {
	text := schemaOf(0, column("s", api.Bytes, false))
	for _, q := range []struct {
		s    api.Schema
		n    int
		want int
	}{
		{strictKey(), 1, 254},
		{strictKey(), 8, 394},
		{strictKey(), 9, 416},
		{strictKey(), api.MaxRows, 192 + 10240 + 128 + 40 + 10240 + 128},
		{text, 1, 203 + 150 + 65 + 1},
		{text, 8, 273 + 150 + 520 + 1},
		{text, api.MaxRows, 192 + 10240 + 128 + 150 + 66560 + 128},
		{textAndKey(), 1, 203 + 216 + 51},
	} {
		if n, e := mpart.Bound(q.s, q.n); n != q.want || e != api.OK {
			t.Errorf("Bound(%+v, %d) = %d, %d, want %d", q.s, q.n, n, e, q.want)
		}
	}
	for _, s := range manySchemas() {
		for n := 1; n <= api.MaxRows; n++ {
			if bound, e := mpart.Bound(s, n); bound != slowBound(s, n) || e != api.OK {
				t.Fatalf("Bound(%+v, %d) = %d, %d, want %d", s, n, bound, e, slowBound(s, n))
			}
		}
	}
}

// Promise 16.5: the error of the schema comes first.
func TestBoundErrors(t *testing.T) {
	outOfRange := []int{0, -1, -2, math.MinInt, api.MaxRows + 1, api.MaxRows + 2, api.MaxBatch, 1 << 32, 1<<32 + 1, math.MaxInt}
	for _, n := range outOfRange {
		if bound, e := mpart.Bound(textAndKey(), n); bound != 0 || e != api.ErrRange {
			t.Errorf("Bound of %d = %d, %d", n, bound, e)
		}
	}
	for _, q := range invalidSchemas() {
		for _, n := range append([]int{1, 2, api.MaxRows}, outOfRange...) {
			if bound, e := mpart.Bound(q.s, n); bound != 0 || e != q.e {
				t.Errorf("Bound(%+v, %d) = %d, %d, want %d", q.s, n, bound, e, q.e)
			}
		}
	}
}

// greatRecs returns n records whose files are as long as they can be: with long values that are all different.
func greatRecs(s api.Schema, n int) []api.Rec {
	l := make([]api.Rec, n)
	for i := range l {
		l[i].Seq = api.MaxSeq - int64(i)
		for _, c := range s.Columns {
			mixed := int64(uint32(i*0x9e3779b1) & 0xffffff)
			switch c.Type {
			case api.Bytes:
				l[i].Row = append(l[i].Row, bytesOf(strings.Repeat(word(uint32(i*0x9e3779b1)), api.MaxBytes/4)))
			case api.Bool:
				l[i].Row = append(l[i].Row, number(int64(i*i/3%2)))
			case api.Date:
				l[i].Row = append(l[i].Row, number(api.MinDate+mixed%100000))
			case api.Decimal:
				l[i].Row = append(l[i].Row, number(-api.MaxDecimal+mixed))
			default:
				l[i].Row = append(l[i].Row, number(math.MinInt64+mixed))
			}
			if c.Nullable && i%9 == 4 {
				l[i].Row[len(l[i].Row)-1] = null()
			}
		}
	}
	sortRecs(s, l)
	return l
}

// Promise 16.5: no file is longer than its bound.
func TestFilesWithinTheirBounds(t *testing.T) {
	for _, s := range append(manySchemas(), longestSchema()) {
		for _, n := range []int{1, 2, 7, 8, 9, 127, 128, 700, api.MaxRows} {
			file, e := mpart.Encode(s, greatRecs(s, n))
			if e != api.OK {
				t.Fatal(e)
			}
			if bound, e := mpart.Bound(s, n); e != api.OK || len(file) > bound {
				t.Errorf("a file of %d records of %+v has %d bytes, more than %d (error %d)", n, s, len(file), bound, e)
			}
		}
	}
}

// longestSchema returns a schema whose files can be longer than those of the others.
func longestSchema() api.Schema {
	s := api.Schema{Key: 3}
	for i := range api.MaxColumns {
		s.Columns = append(s.Columns, column("a"+strings.Repeat("x", i+3), api.Bytes, false))
	}
	return s
}

// Rule R2: nothing is written behind the columns of a schema, behind the records, or behind their rows.
func TestMemoryBehindArguments(t *testing.T) {
	guard := column("guard", api.Date, true)
	s := textAndKey()
	columns := append(slices.Clone(s.Columns), guard, guard)
	s.Columns = columns[:2:4]
	l := append(fewRecs(), rec(99, number(98)))
	for i := range l[:4] {
		l[i].Row = append(slices.Clone(l[i].Row), number(97))[:2]
	}
	file, e := mpart.Encode(s, l[:4])
	if e != api.OK {
		t.Fatal(e)
	}
	if file != partsOf(t, textAndKey(), fewRecs()).file() {
		t.Error("the memory behind the arguments changes the file")
	}
	checkGood(t, "guarded", s, file)
	if n, e := mpart.Bound(s, 4); n != slowBound(textAndKey(), 4) || e != api.OK {
		t.Error(n, e)
	}
	if columns[2] != guard || columns[3] != guard || l[4].Seq != 99 || l[4].Row[0] != number(98) {
		t.Error("the memory behind the columns or the records was changed")
	}
	for i := range l[:4] {
		if l[i].Row[:3][2] != number(97) {
			t.Error("the memory behind row", i, "was changed")
		}
	}
}

// Rule R2: results are new memory, and their rows share nothing with each other.
func TestResultsAreNewMemory(t *testing.T) {
	s := textAndKey()
	file := partsOf(t, s, fewRecs()).file()
	l, _ := mpart.Recs(s, file)
	for i := range l {
		_ = append(l[i].Row, number(-7), number(-7))
	}
	if !sameRecs(l, fewRecs()) {
		t.Fatal("rows share memory:", l)
	}
	info, _ := mpart.Info(s, file)
	values, _ := mpart.Column(s, file, 2)
	clear(info.Zones)
	clear(values)
	for i := range l {
		clear(l[i].Row)
	}
	clear(l)
	checkGood(t, "read again", s, file)
}
