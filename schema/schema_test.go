package schema

import (
	"fmt"
	"hash/crc32"
	"math"
	"math/rand"
	"reflect"
	"regexp"
	"slices"
	"strconv"
	"strings"
	"testing"

	"micropart/api"
)

const example = "id int\nprice decimal 2 null\nkey id\n"

var (
	types    = []int{api.Int, api.Bool, api.Bytes, api.Date, api.Decimal}
	notTypes = []int{0, -1, -5, 6, 7, 256 + api.Int, 1<<32 + api.Decimal, math.MinInt, math.MaxInt}

	typeWords = []string{"", "int", "bool", "bytes", "date", "decimal"}

	scalesOutOfRange = []int{-1, -18, 19, 20, 99, 256, 1 << 32, 1<<32 + 2, math.MinInt, math.MaxInt}

	names = []string{
		"a", "z", "a_", "az", "a0", "a9", "a_1", "zz__99", "abcdefghijklmnop", "qrstuvwxyz_01234", "k", "ke", "keys", "key_", "keykey", "akey",
		"int", "null", "decimal", "false",
	}
	notNames = []string{
		"", "key", "Key", "A", "aB", "Z", "1a", "0", "9", "_", "_a", "a-b", "a.b", "a b", "a ", " a", "a\n", "\na", "a\r", "a\t", "a\x00", "\x00",
		"é", "aé", "a\xff", "\xff", "a`", "`", "a{", "{", "a/", "a:", "a@", "a[", "abcdefghijklmnopq", strings.Repeat("a", 17), strings.Repeat("a", 300),
		strings.Repeat("é", 8), "aä", "a٣", "ａ", "aａ", "keY",
	}
)

func column(name string, typ int) api.Column { return api.Column{Name: name, Type: typ} }

func schemaOf(key int, columns ...api.Column) api.Schema {
	return api.Schema{Columns: columns, Key: key}
}

// manyColumns returns n valid columns.
func manyColumns(n int) []api.Column {
	columns := make([]api.Column, n)
	for i := range columns {
		columns[i] = column("c"+strconv.Itoa(i), api.Int)
	}
	return columns
}

// randomSchema returns a valid schema.
func randomSchema(r *rand.Rand) api.Schema {
	s := api.Schema{Columns: make([]api.Column, 1+r.Intn(api.MaxColumns))}
	order := r.Perm(len(names))
	for i := range s.Columns {
		c := api.Column{Name: names[order[i]], Type: types[r.Intn(len(types))], Nullable: r.Intn(2) == 0}
		if c.Type == api.Decimal {
			c.Scale = r.Intn(api.MaxScale + 1)
		}
		s.Columns[i] = c
	}
	s.Key = r.Intn(len(s.Columns))
	return s
}

var nameForm = regexp.MustCompile(`^[a-z][a-z0-9_]{0,15}\z`)

func slowName(s string) bool { return nameForm.MatchString(s) && s != "key" }

// slowCheck asks one question of the promise after the other.
func slowCheck(s api.Schema) api.Errno {
	if len(s.Columns) < 1 {
		return api.ErrArg
	}
	if len(s.Columns) > 12 {
		return api.ErrFull
	}
	seen := map[string]bool{}
	for _, c := range s.Columns {
		switch {
		case !slowName(c.Name):
			return api.ErrName
		case seen[c.Name]:
			return api.ErrDuplicate
		case !slices.Contains(types, c.Type):
			return api.ErrType
		case c.Type != api.Decimal && c.Scale != 0, c.Scale < 0, c.Scale > 18:
			return api.ErrRange
		}
		seen[c.Name] = true
	}
	if s.Key < 0 || len(s.Columns) <= s.Key {
		return api.ErrRange
	}
	return api.OK
}

// slowFormat returns the text of a valid schema.
func slowFormat(s api.Schema) string {
	lines := []string{}
	for _, c := range s.Columns {
		line := fmt.Sprintf("%s %s", c.Name, typeWords[c.Type])
		if c.Type == api.Decimal {
			line = fmt.Sprintf("%s %d", line, c.Scale)
		}
		if c.Nullable {
			line = fmt.Sprintf("%s null", line)
		}
		lines = append(lines, line+"\n")
	}
	return strings.Join(lines, "") + fmt.Sprintf("key %s\n", s.Columns[s.Key].Name)
}

var (
	keyForm    = regexp.MustCompile(`^key ([^ \n]+)\n\z`)
	columnForm = regexp.MustCompile(`^([^ \n]+) (int|bool|bytes|date|decimal) ?(0|[1-9][0-9]?)?( null)?\n\z`)
)

// slowColumn returns the column of a line; the pattern permits a scale, and a space before it,
// where there must be none, or none where there must be one.
func slowColumn(line string) (api.Column, bool) {
	m := columnForm.FindStringSubmatch(line)
	if m == nil {
		return api.Column{}, false
	}
	c := api.Column{Name: m[1], Type: slices.Index(typeWords, m[2]), Nullable: m[4] != ""}
	if c.Type == api.Decimal {
		c.Scale, _ = strconv.Atoi(m[3])
	}
	want := m[1] + " " + m[2] + m[4] + "\n"
	if c.Type == api.Decimal {
		want = m[1] + " " + m[2] + " " + m[3] + m[4] + "\n"
	}
	return c, line == want && (c.Type == api.Decimal) == (m[3] != "")
}

// slowParse looks for each error in all lines before it looks for the next one.
func slowParse(src string) (api.Schema, int, api.Errno) {
	if len(src) > 1<<16 {
		return api.Schema{}, 0, api.ErrFull
	}
	s, keyLine, key := api.Schema{}, 0, ""
	for i, line := range strings.SplitAfter(src, "\n") {
		if line == "" && i == strings.Count(src, "\n") {
			break // what follows the last line feed
		}
		if m := keyForm.FindStringSubmatch(line); m != nil && keyLine == 0 {
			keyLine, key = i+1, m[1]
			continue
		}
		c, ok := slowColumn(line)
		if !ok || keyLine > 0 {
			return api.Schema{}, i + 1, api.ErrForm
		}
		s.Columns = append(s.Columns, c)
	}
	if keyLine == 0 {
		return api.Schema{}, 0, api.ErrForm
	}
	s.Key = slices.IndexFunc(s.Columns, func(c api.Column) bool { return c.Name == key })
	if s.Key == -1 {
		return api.Schema{}, keyLine, api.ErrName
	}
	if e := slowCheck(s); e != api.OK {
		return api.Schema{}, 0, e
	}
	return s, 0, api.OK
}

func isSame(a, b api.Schema) bool { return slices.Equal(a.Columns, b.Columns) && a.Key == b.Key }

// short returns s, or its beginning if it is long.
func short(s string) string { return s[:min(len(s), 100)] }

func checkName(t *testing.T, s string, want bool) {
	t.Helper()
	if got := Name(s); got != want {
		t.Errorf("Name(%q) = %t, want %t", s, got, want)
	}
}

func checkCheck(t *testing.T, s api.Schema, want api.Errno) {
	t.Helper()
	if e := Check(s); e != want {
		t.Errorf("Check(%+v) = %d, want %d", s, e, want)
	}
}

func checkFind(t *testing.T, s api.Schema, name string, want int) {
	t.Helper()
	if got := Find(s, name); got != want {
		t.Errorf("Find(%+v, %q) = %d, want %d", s, name, got, want)
	}
}

func checkFormat(t *testing.T, s api.Schema, want string, wantErr api.Errno) {
	t.Helper()
	if text, e := Format(s); text != want || e != wantErr {
		t.Errorf("Format(%+v) = %q, %d, want %q, %d", s, text, e, want, wantErr)
	}
}

func checkId(t *testing.T, s api.Schema, want uint32, wantErr api.Errno) {
	t.Helper()
	if id, e := Id(s); id != want || e != wantErr {
		t.Errorf("Id(%+v) = %08X, %d, want %08X, %d", s, id, e, want, wantErr)
	}
}

func checkParse(t *testing.T, src string, want api.Schema, wantLine int, wantErr api.Errno) {
	t.Helper()
	if s, line, e := Parse(src); !isSame(s, want) || line != wantLine || e != wantErr {
		t.Errorf("Parse(%q) = %+v, %d, %d, want %+v, %d, %d", short(src), s, line, e, want, wantLine, wantErr)
	}
}

func checkParseFails(t *testing.T, src string, wantLine int, wantErr api.Errno) {
	t.Helper()
	checkParse(t, src, api.Schema{}, wantLine, wantErr)
}

func checkParseIsSlowParse(t *testing.T, src string) {
	t.Helper()
	want, wantLine, wantErr := slowParse(src)
	checkParse(t, src, want, wantLine, wantErr)
}

// Promise 7.1.
func TestNameOfKnownTexts(t *testing.T) {
	for _, s := range names {
		checkName(t, s, true)
	}
	for _, s := range notNames {
		checkName(t, s, false)
	}
	for size := range 40 {
		checkName(t, strings.Repeat("a", size), size >= 1 && size <= 16)
		checkName(t, "a"+strings.Repeat("_", size), size <= 15)
		checkName(t, strings.Repeat("b", size)+"-", false)
	}
}

// Promise 7.1: each byte at each place, also beside a letter that would be a name alone.
func TestNameOfEachByte(t *testing.T) {
	for b := range 256 {
		c := string([]byte{byte(b)})
		for _, s := range []string{c, c + c, c + "a", "a" + c, "ab" + c, "a" + c + "b", "ke" + c, c + "ey", "k" + c + "y", "key" + c, c + "key", "abcdefghijklmno" + c, "abcdefghijklmnop" + c} {
			checkName(t, s, slowName(s))
		}
	}
}

// Promise 7.1.
func TestCheckOfValidSchemas(t *testing.T) {
	for _, typ := range types {
		for _, nullable := range []bool{false, true} {
			checkCheck(t, schemaOf(0, api.Column{Name: "a", Type: typ, Nullable: nullable}), api.OK)
		}
	}
	for scale := range api.MaxScale + 1 {
		checkCheck(t, schemaOf(0, api.Column{Name: "a", Type: api.Decimal, Scale: scale}), api.OK)
	}
	for _, name := range names {
		checkCheck(t, schemaOf(0, column(name, api.Int)), api.OK)
	}
	for n := 1; n <= 12; n++ {
		for key := range n {
			checkCheck(t, schemaOf(key, manyColumns(n)...), api.OK)
		}
	}
	// Names that differ in their last byte or in their length only.
	checkCheck(t, schemaOf(1, column("abcdefghijklmnop", api.Int), column("abcdefghijklmnoq", api.Int), column("abcdefghijklmno", api.Int)), api.OK)
}

// Promise 7.1: the number of columns, whatever they are.
func TestCheckOfTheNumberOfColumns(t *testing.T) {
	for _, key := range []int{0, 1, -1, math.MinInt, math.MaxInt} {
		checkCheck(t, api.Schema{Key: key}, api.ErrArg)
		checkCheck(t, api.Schema{Columns: []api.Column{}, Key: key}, api.ErrArg)
		for _, n := range []int{13, 14, 25, 1000} {
			checkCheck(t, api.Schema{Columns: make([]api.Column, n), Key: key}, api.ErrFull)
			checkCheck(t, schemaOf(key, manyColumns(n)...), api.ErrFull)
		}
	}
}

// Promise 7.1: one error in one of several columns.
func TestCheckOfEachColumn(t *testing.T) {
	for n := 1; n <= 12; n++ {
		for i := range n {
			checkWith := func(c api.Column, want api.Errno) {
				t.Helper()
				s := schemaOf(0, manyColumns(n)...)
				s.Columns[i] = c
				checkCheck(t, s, want)
			}
			for _, name := range notNames {
				checkWith(column(name, api.Int), api.ErrName)
			}
			for _, typ := range notTypes {
				checkWith(column("x", typ), api.ErrType)
				checkWith(api.Column{Name: "x", Type: typ, Scale: 1}, api.ErrType)
			}
			for _, typ := range types {
				for _, scale := range scalesOutOfRange {
					checkWith(api.Column{Name: "x", Type: typ, Scale: scale, Nullable: true}, api.ErrRange)
				}
			}
			for _, typ := range types[:4] {
				checkWith(api.Column{Name: "x", Type: typ, Scale: 1}, api.ErrRange)
				checkWith(api.Column{Name: "x", Type: typ, Scale: 18}, api.ErrRange)
			}
			for earlier := range i {
				checkWith(column("c"+strconv.Itoa(earlier), api.Bool), api.ErrDuplicate)
			}
		}
	}
}

// Promise 7.1.
func TestCheckOfTheKey(t *testing.T) {
	for n := 1; n <= 12; n++ {
		for _, key := range []int{-1, -2, -n, math.MinInt, n, n + 1, 12, 1 << 32, math.MaxInt} {
			if key >= n || key < 0 {
				checkCheck(t, schemaOf(key, manyColumns(n)...), api.ErrRange)
			}
		}
	}
}

// Promise 7.1: if there are several errors, the first one in the order of the promise is returned,
// column by column.
func TestCheckReturnsTheFirstError(t *testing.T) {
	noName := api.Column{Name: "key", Type: 9, Scale: 1}
	noType := api.Column{Name: "b", Type: 0, Scale: -1}
	noScale := api.Column{Name: "c", Type: api.Int, Scale: 1}
	a := column("a", api.Int)
	for _, q := range []struct {
		s    api.Schema
		want api.Errno
	}{
		{schemaOf(-1, noName), api.ErrName},
		{schemaOf(-1, noType), api.ErrType},
		{schemaOf(-1, noScale), api.ErrRange},
		{schemaOf(9, a, noName, noType), api.ErrName},
		{schemaOf(9, a, noType, noName), api.ErrType},
		{schemaOf(9, a, noScale, noName), api.ErrRange},
		{schemaOf(9, a, noScale, noType), api.ErrRange},
		{schemaOf(9, noType, noName, noScale), api.ErrType},
		{schemaOf(9, noName, noName), api.ErrName},
		{schemaOf(9, a, api.Column{Name: "a", Type: 9, Scale: 1}), api.ErrDuplicate},
		{schemaOf(9, a, api.Column{Name: "a", Type: api.Int, Scale: 1}), api.ErrDuplicate},
		{schemaOf(9, a, a, noName), api.ErrDuplicate},
		{schemaOf(9, noType, noType), api.ErrType},
		{schemaOf(0, a, noType, a), api.ErrType},
		{schemaOf(0, a, noScale, a), api.ErrRange},
		{schemaOf(0, a, noName, a), api.ErrName},
		{schemaOf(0, a, a), api.ErrDuplicate},
		{schemaOf(0, a, column("", api.Int), column("", api.Int)), api.ErrName},
	} {
		checkCheck(t, q.s, q.want)
	}
}

// randomDamage changes one thing of a schema, so that it may no longer be valid.
func randomDamage(r *rand.Rand, s *api.Schema) {
	i := r.Intn(len(s.Columns))
	switch r.Intn(6) {
	case 0:
		s.Columns[i].Name = notNames[r.Intn(len(notNames))]
	case 1:
		s.Columns[i].Name = s.Columns[r.Intn(len(s.Columns))].Name
	case 2:
		s.Columns[i].Type = r.Intn(8) - 1
	case 3:
		s.Columns[i].Scale = r.Intn(24) - 3
	case 4:
		s.Key = r.Intn(16) - 2
	case 5:
		s.Columns = append(s.Columns, manyColumns(r.Intn(5))...)
	}
}

// Promises 7.1, 7.2 and 7.4: the errors of Format and Id are those of Check, without a result.
func TestChecksOfDamagedSchemas(t *testing.T) {
	r := rand.New(rand.NewSource(1))
	failures := map[api.Errno]int{}
	for range 20000 {
		s := randomSchema(r)
		for range r.Intn(5) {
			randomDamage(r, &s)
		}
		e := slowCheck(s)
		failures[e]++
		checkCheck(t, s, e)
		if e != api.OK {
			checkFormat(t, s, "", e)
			checkId(t, s, 0, e)
			continue
		}
		checkFormat(t, s, slowFormat(s), e)
	}
	for _, e := range []api.Errno{api.OK, api.ErrFull, api.ErrName, api.ErrDuplicate, api.ErrType, api.ErrRange} {
		if failures[e] < 100 {
			t.Errorf("only %d schemas have the error %d", failures[e], e)
		}
	}
}

// Promises 7.2 and 7.4.
func TestNoColumnsHaveNoText(t *testing.T) {
	checkFormat(t, api.Schema{}, "", api.ErrArg)
	checkId(t, api.Schema{}, 0, api.ErrArg)
}

// Promise 7.1: the schema need not be valid.
func TestFind(t *testing.T) {
	s := schemaOf(7, column("a", api.Int), column("b", 0), column("", api.Int), column("a", api.Bool), column("ab", api.Int), column("key", api.Int), column("A\x00", api.Int))
	for _, q := range []struct {
		name string
		want int
	}{
		{"a", 0}, {"b", 1}, {"", 2}, {"ab", 4}, {"key", 5}, {"A\x00", 6}, {"A", -1}, {"c", -1}, {"a ", -1}, {"aa", -1}, {"B", -1}, {"\x00", -1},
	} {
		checkFind(t, s, q.name, q.want)
		checkFind(t, api.Schema{}, q.name, -1)
		checkFind(t, api.Schema{Key: 1}, q.name, -1)
	}
	many := api.Schema{Columns: manyColumns(100)}
	for i := range many.Columns {
		checkFind(t, many, "c"+strconv.Itoa(i), i)
	}
	checkFind(t, many, "c100", -1)
	checkFind(t, api.Schema{Columns: make([]api.Column, 20)}, "", 0)
}

// Promises 7.2 and 7.3, and the example.
func TestTextsOfKnownSchemas(t *testing.T) {
	for _, q := range []struct {
		s    api.Schema
		text string
	}{
		{schemaOf(0, column("id", api.Int), api.Column{Name: "price", Type: api.Decimal, Scale: 2, Nullable: true}), example},
		{schemaOf(0, column("a", api.Int)), "a int\nkey a\n"},
		{schemaOf(0, column("a", api.Bool)), "a bool\nkey a\n"},
		{schemaOf(0, column("a", api.Bytes)), "a bytes\nkey a\n"},
		{schemaOf(0, column("a", api.Date)), "a date\nkey a\n"},
		{schemaOf(0, column("a", api.Decimal)), "a decimal 0\nkey a\n"},
		{schemaOf(0, api.Column{Name: "a", Type: api.Decimal, Nullable: true}), "a decimal 0 null\nkey a\n"},
		{schemaOf(0, api.Column{Name: "a", Type: api.Decimal, Scale: 9}), "a decimal 9\nkey a\n"},
		{schemaOf(0, api.Column{Name: "a", Type: api.Decimal, Scale: 10}), "a decimal 10\nkey a\n"},
		{schemaOf(0, api.Column{Name: "a", Type: api.Decimal, Scale: 18}), "a decimal 18\nkey a\n"},
		{schemaOf(0, api.Column{Name: "a", Type: api.Int, Nullable: true}), "a int null\nkey a\n"},
		{schemaOf(0, api.Column{Name: "a", Type: api.Bool, Nullable: true}), "a bool null\nkey a\n"},
		{schemaOf(0, api.Column{Name: "a", Type: api.Bytes, Nullable: true}), "a bytes null\nkey a\n"},
		{schemaOf(0, api.Column{Name: "a", Type: api.Date, Nullable: true}), "a date null\nkey a\n"},
		{schemaOf(2, column("null", api.Int), column("int", api.Bool), column("decimal", api.Date)), "null int\nint bool\ndecimal date\nkey decimal\n"},
		{schemaOf(1, column("b", api.Int), column("a", api.Int)), "b int\na int\nkey a\n"},
		{schemaOf(0, column("abcdefghijklmnop", api.Bytes)), "abcdefghijklmnop bytes\nkey abcdefghijklmnop\n"},
	} {
		checkFormat(t, q.s, q.text, api.OK)
		checkParse(t, q.text, q.s, 0, api.OK)
	}
}

// Promises 7.2 to 7.4, and the consequence, for all scales and for random schemas.
func TestTextsOfManySchemas(t *testing.T) {
	schemas := []api.Schema{}
	for scale := range api.MaxScale + 1 {
		for _, nullable := range []bool{false, true} {
			schemas = append(schemas, schemaOf(0, api.Column{Name: "a", Type: api.Decimal, Scale: scale, Nullable: nullable}))
		}
	}
	for key := range api.MaxColumns {
		schemas = append(schemas, schemaOf(key, manyColumns(api.MaxColumns)...))
	}
	r := rand.New(rand.NewSource(2))
	for range 5000 {
		schemas = append(schemas, randomSchema(r))
	}
	table := crc32.MakeTable(crc32.Castagnoli)
	for _, s := range schemas {
		text := slowFormat(s)
		checkFormat(t, s, text, api.OK)
		checkParse(t, text, s, 0, api.OK)
		checkId(t, s, crc32.Checksum([]byte(text), table), api.OK)
	}
}

// Promise 7.4: the checksum depends on each part of the text.
func TestIdOfKnownSchemas(t *testing.T) {
	seen := map[uint32]bool{}
	table := crc32.MakeTable(crc32.Castagnoli)
	for _, text := range []string{
		example, "id int\nprice decimal 2 null\nkey price\n", "id int\nprice decimal 2\nkey id\n", "id int\nprice decimal 3 null\nkey id\n",
		"id date\nprice decimal 2 null\nkey id\n", "price decimal 2 null\nid int\nkey id\n", "id int\nprices decimal 2 null\nkey id\n", "id int\nkey id\n",
	} {
		s, _, e := Parse(text)
		if e != api.OK {
			t.Fatal(text, e)
		}
		want := crc32.Checksum([]byte(text), table)
		checkId(t, s, want, api.OK)
		if seen[want] {
			t.Errorf("%q has the checksum of another text", text)
		}
		seen[want] = true
	}
}

// Promise 7.3: lines that are not of one of the forms. The line stands alone, and between others.
func TestParseRefusesOtherLines(t *testing.T) {
	for _, line := range []string{
		"", " ", "  ", "a", "a ", " a", " int", "a  int", " a int", "a int ", "a int  null", "a int null ", "  int", "a\tint", "a int\r", "a int\tnull",
		"int", "null", "a null", "null null", "a b", "a real", "a Int", "a INT", "a in", "a intx", "a ints", "a boolean", "a byte", "a dates", "a decimals 2",
		"a int 0", "a int 2", "a bool 0", "a bytes 64", "a date 0 null", "a int nul", "a int nulls", "a int Null", "a int not", "a int null null", "a int null int",
		"a decimal", "a decimal ", "a decimal null", "a decimal  null", "a decimal null 2", "a decimal  2", "a decimal 2 ", "a decimal 2  null", "a decimal 2null",
		"a decimal 02", "a decimal 00", "a decimal 000", "a decimal 010", "a decimal 100", "a decimal 999", "a decimal 18446744073709551618",
		"a decimal -1", "a decimal -0", "a decimal +2", "a decimal 2.", "a decimal 1e1", "a decimal x", "a decimal 2x", "a decimal x2", "a decimal 0x2", "a decimal ٣", "a decimal 2 2",
		"a decimal 2 null null", "a decimal 2 nul", "a decimal2", "a decimal 1:", "a decimal 1/", "a decimal /", "a decimal :", "a decimal \x00", "a decimal \xff",
		"a decimal " + strings.Repeat("1", 1000), "a decimal " + strings.Repeat("0", 1000), "a b int", "a b c d",
		"key", "key ", "key  ", "key  a", " key a", "key a ", "key a b", "key a null", "key null null", "Key a", "keys a", "key\ta",
	} {
		checkParseFails(t, line+"\n", 1, api.ErrForm)
		checkParseFails(t, line+"\nkey a\n", 1, api.ErrForm)
		checkParseFails(t, "a int\n"+line+"\nkey a\n", 2, api.ErrForm)
		checkParseFails(t, "a int\nb date null\n"+line+"\n"+line+"\n", 3, api.ErrForm)
		checkParseFails(t, "a int\nkey a\n"+line+"\n", 3, api.ErrForm)
	}
}

// Promise 7.3: what follows the line `key`, even if it is of one of the forms.
func TestParseRefusesLinesAfterTheKey(t *testing.T) {
	for _, after := range []string{"\n", "key a\n", "b int\n", "a int\n", "\n\n", " ", "x", "key", "key a", "b int", "key b\nx\n", "\x00"} {
		checkParseFails(t, "a int\nkey a\n"+after, 3, api.ErrForm)
		checkParseFails(t, "key a\n"+after, 2, api.ErrForm)
		checkParseFails(t, "a int\nkey b\n"+after, 3, api.ErrForm)
		checkParseFails(t, "a int\na int\nkey a\n"+after, 4, api.ErrForm)
	}
}

// Promise 7.3: all beginnings of a text, in which the last line does not end.
func TestParseRefusesLinesWithoutEnd(t *testing.T) {
	for _, text := range []string{example, "a int\nb bool\nc bytes null\nd date\ne decimal 18\nkey e\n"} {
		for size := range len(text) {
			line := 0
			if size > 0 && text[size-1] != '\n' {
				line = strings.Count(text[:size], "\n") + 1
			}
			checkParseFails(t, text[:size], line, api.ErrForm)
		}
	}
	checkParseFails(t, "x", 1, api.ErrForm)
	checkParseFails(t, "x\ny", 1, api.ErrForm)
	checkParseFails(t, "key id", 1, api.ErrForm)
	checkParseFails(t, "id int\nkey x", 2, api.ErrForm)
	checkParseFails(t, "id int\r\nkey id\r\n", 1, api.ErrForm)
	checkParseFails(t, "id int\rkey id\r", 1, api.ErrForm)
}

// Promise 7.3: a text without the line `key`.
func TestParseNeedsTheKey(t *testing.T) {
	checkParseFails(t, "", 0, api.ErrForm)
	checkParseFails(t, "a int\n", 0, api.ErrForm)
	checkParseFails(t, "a int\na int\n", 0, api.ErrForm)
	checkParseFails(t, "A int\nb decimal 99\n", 0, api.ErrForm)
	checkParseFails(t, "key int null\n", 0, api.ErrForm) // a column
	checkParseFails(t, strings.Repeat("a int\n", 13), 0, api.ErrForm)
}

// Promise 7.3: a line of two words, the first of which is `key`, is the line `key`; with more words
// it may be a column, whose name is refused later.
func TestParseOfColumnsNamedKey(t *testing.T) {
	checkParseFails(t, "key int\n", 1, api.ErrName)
	checkParseFails(t, "a bool\nkey int\n", 2, api.ErrName)
	checkParseFails(t, "key int\nkey int\n", 2, api.ErrForm)
	checkParseFails(t, "key int null\nkey key\n", 0, api.ErrName)
	checkParseFails(t, "key decimal 2\nkey key\n", 0, api.ErrName)
	checkParseFails(t, "key decimal 2\nkey decimal\n", 2, api.ErrName)
	checkParseFails(t, "a int\nkey decimal 2 null\nkey a\n", 0, api.ErrName)
	checkParse(t, "int int\nkey int\n", schemaOf(0, column("int", api.Int)), 0, api.OK)
	checkParse(t, "null int null\nkey null\n", schemaOf(0, api.Column{Name: "null", Type: api.Int, Nullable: true}), 0, api.OK)
}

// Promise 7.3: the column of the key is looked for before the columns are checked.
func TestParseOfUnknownKeys(t *testing.T) {
	for _, q := range []struct {
		src  string
		line int
	}{
		{"key a\n", 1},
		{"a int\nkey b\n", 2},
		{"a int\nkey A\n", 2},
		{"ab int\nkey a\n", 2},
		{"a int\nkey ab\n", 2},
		{"a int\nb int\nc int\nkey d\n", 4},
		{"a int\na int\nkey b\n", 3},
		{"A int\nkey b\n", 2},
		{"a decimal 19\nkey b\n", 2},
		{"key int null\nkey b\n", 2},
		{strings.Repeat("a int\n", 13) + "key b\n", 14},
	} {
		checkParseFails(t, q.src, q.line, api.ErrName)
	}
}

// Promise 7.3: the error of Check comes last. Names may be any words, as far as the form is concerned.
func TestParseReturnsTheErrorOfCheck(t *testing.T) {
	for _, name := range notNames {
		if name != "" && name != "key" && !strings.ContainsAny(name, " \n") {
			checkParseFails(t, name+" int\nkey "+name+"\n", 0, api.ErrName)
			checkParseFails(t, "a int\n"+name+" decimal 2 null\nkey a\n", 0, api.ErrName)
		}
	}
	for _, scale := range []string{"19", "20", "90", "99"} {
		checkParseFails(t, "a decimal "+scale+"\nkey a\n", 0, api.ErrRange)
		checkParseFails(t, "b int\na decimal "+scale+" null\nkey b\n", 0, api.ErrRange)
	}
	for _, q := range []struct {
		src  string
		want api.Errno
	}{
		{"a int\na int\nkey a\n", api.ErrDuplicate},
		{"a int\na decimal 19\nkey a\n", api.ErrDuplicate},
		{"a decimal 19\na int\nkey a\n", api.ErrRange},
		{"a decimal 19\nB int\nkey B\n", api.ErrRange},
		{"B decimal 19\na int\nkey a\n", api.ErrName},
		{"a int\nb int\na int null\nkey b\n", api.ErrDuplicate},
		{strings.Repeat("a int\n", 12) + "key a\n", api.ErrDuplicate},
		{strings.Repeat("a int\n", 13) + "key a\n", api.ErrFull},
		{strings.Repeat("A int\n", 13) + "key A\n", api.ErrFull},
	} {
		checkParseFails(t, q.src, 0, q.want)
	}
}

// Promise 7.3: the limit comes before everything else, and what is not longer is read.
func TestParseOfLongTexts(t *testing.T) {
	const before, after = "id int\n", " int\nkey id\n"
	name := strings.Repeat("x", api.MaxText-len(before)-len(after))
	checkParseFails(t, before+name+after, 0, api.ErrName)
	checkParseFails(t, before+name+"x"+after, 0, api.ErrFull)
	checkParseFails(t, before+name+strings.Replace(after, "int", "ins", 1), 2, api.ErrForm)
	checkParseFails(t, before+name+"x"+strings.Replace(after, "int", "ins", 1), 0, api.ErrFull)
	checkParseFails(t, strings.Repeat("\n", api.MaxText), 1, api.ErrForm)
	checkParseFails(t, strings.Repeat("\n", api.MaxText+1), 0, api.ErrFull)
	checkParseFails(t, strings.Repeat(" ", api.MaxText), 1, api.ErrForm)
	checkParseFails(t, strings.Repeat("x", 1<<20), 0, api.ErrFull)
	checkParseFails(t, example+strings.Repeat("\n", api.MaxText-len(example)+1), 0, api.ErrFull)
	checkParseFails(t, example+strings.Repeat("\n", api.MaxText-len(example)), 4, api.ErrForm)

	many := strings.Repeat("a int\n", 10000)
	checkParseFails(t, many, 0, api.ErrForm)
	checkParseFails(t, many+"key b\n", 10001, api.ErrName)
	checkParseFails(t, many+"key a\n", 0, api.ErrFull)
	checkParseFails(t, many+"a\nkey a\n", 10001, api.ErrForm)
}

// Promise 7.3: all texts of up to six of these pieces, alone and within others.
func TestParseOfAllShortTexts(t *testing.T) {
	pieces := []string{"key", "a", "int", "decimal", "null", "2", " ", "\n"}
	var grow func(src string, count int)
	grow = func(src string, count int) {
		checkParseIsSlowParse(t, src)
		checkParseIsSlowParse(t, "a int\n"+src+"\nkey a\n")
		if count < 6 && !t.Failed() {
			for _, piece := range pieces {
				grow(src+piece, count+1)
			}
		}
	}
	grow("", 0)
}

// Promise 7.3: valid texts of which one byte was changed, removed or added.
func TestParseOfDamagedTexts(t *testing.T) {
	const added = "\x00\t\n\r !-/019:@Aaklz_`{\x7f\x80\xff"
	for _, text := range []string{
		example, "a int\nb bool null\nc bytes\nd date null\ne decimal 18 null\nf decimal 0\nkey d\n", "ab int\na decimal 1\nb date\nkey b\n",
	} {
		for at := range len(text) + 1 {
			for i := range len(added) {
				checkParseIsSlowParse(t, text[:at]+added[i:i+1]+text[at:])
				if at < len(text) {
					checkParseIsSlowParse(t, text[:at]+added[i:i+1]+text[at+1:])
				}
			}
			for end := at + 1; end <= len(text); end++ {
				checkParseIsSlowParse(t, text[:at]+text[end:])
			}
		}
	}
}

// randomLine returns the words of a column or of the line `key`, some of which may be replaced.
func randomLine(r *rand.Rand) string {
	words := []string{"a", "b", "c", "a_b", "B", "key", "null", "int", "bool", "bytes", "date", "decimal", "0", "7", "18", "19", "07", ""}
	line := []string{words[r.Intn(4)], typeWords[1+r.Intn(5)]}
	if line[1] == "decimal" {
		line = append(line, words[12+r.Intn(4)])
	}
	if r.Intn(2) == 0 {
		line = append(line, "null")
	}
	if r.Intn(4) == 0 {
		line = []string{"key", words[r.Intn(4)]}
	}
	if r.Intn(10) == 0 {
		line[r.Intn(len(line))] = words[r.Intn(len(words))]
	}
	return strings.Join(line, " ") + "\n"
}

// Promise 7.3.
func TestParseOfRandomTexts(t *testing.T) {
	r := rand.New(rand.NewSource(3))
	results := map[api.Errno]int{}
	for range 50000 {
		src := ""
		for range r.Intn(7) {
			src += randomLine(r)
		}
		if r.Intn(2) == 0 {
			src += "key " + names[0] + "\n"
		}
		checkParseIsSlowParse(t, src)
		_, _, e := Parse(src)
		results[e]++
	}
	for _, e := range []api.Errno{api.OK, api.ErrForm, api.ErrName, api.ErrDuplicate, api.ErrRange} {
		if results[e] < 100 {
			t.Errorf("only %d texts have the error %d", results[e], e)
		}
	}
}

// Rules R2 and R5: nothing changes an argument, and what is returned may be changed.
func TestArgumentsAndResultsAreSeparate(t *testing.T) {
	r := rand.New(rand.NewSource(4))
	for range 200 {
		s := randomSchema(r)
		if r.Intn(2) == 0 {
			randomDamage(r, &s)
		}
		before := api.Schema{Columns: slices.Clone(s.Columns), Key: s.Key}
		for range 2 {
			Check(s)
			Find(s, "a")
			Format(s)
			Id(s)
		}
		if !reflect.DeepEqual(s, before) {
			t.Fatalf("%+v was changed into %+v", before, s)
		}
	}
	first, _, _ := Parse(example)
	for i := range first.Columns {
		first.Columns[i] = api.Column{Name: "x"}
	}
	second, _, _ := Parse(example)
	checkFormat(t, second, example, api.OK)
}
