package schema_test

import (
	"bytes"
	"math/rand"
	"slices"
	"strconv"
	"strings"
	"testing"

	"refit/api"
	"refit/schema"
	"refit/wire"
)

// number is the encoding of a number, which layer 1's own tests hold against the document.
func number(n int) string {
	var w wire.Writer
	w.Number(n)
	return string(w.Bytes())
}

// encoder collects the parts of an encoding one by one, whether they are those of a valid schema or not.
type encoder struct {
	parts []string // numbers, and the bytes of texts
	texts []int    // which of them are bytes of texts
}

func (e *encoder) number(n int) { e.parts = append(e.parts, number(n)) }

func (e *encoder) text(s string) {
	e.number(len(s))
	e.texts = append(e.texts, len(e.parts))
	e.parts = append(e.parts, s)
}

func (e *encoder) flag(b bool) {
	if b {
		e.number(1)
	} else {
		e.number(0)
	}
}

func (e *encoder) schema(s api.Schema) {
	e.number(s.Version)
	e.number(s.Next)
	e.number(len(s.Tables))
	for _, t := range s.Tables {
		e.number(t.Id)
		e.text(t.Name)
		e.number(len(t.Columns))
		for _, c := range t.Columns {
			e.column(c)
		}
		e.number(len(t.Indexes))
		for _, x := range t.Indexes {
			e.index(x)
		}
	}
}

func (e *encoder) column(c api.Column) {
	e.number(c.Id)
	e.text(c.Name)
	e.number(int(c.Type.Kind))
	e.number(c.Type.Scale)
	e.flag(c.NotNull)
	e.text(defaultRow(c.Default))
	e.number(int(c.State))
}

func (e *encoder) index(x api.Index) {
	e.number(x.Id)
	e.text(x.Name)
	e.number(len(x.Columns))
	for _, id := range x.Columns {
		e.number(id)
	}
	e.flag(x.Unique)
	e.number(int(x.State))
}

// defaultRow is the encoding of the row whose column 0 is v.
func defaultRow(v api.Value) string {
	if v == (api.Value{}) {
		return "\x00"
	}
	return "\x01\x01" + "\x00" + valueBytes(v)
}

func valueBytes(v api.Value) string {
	b := number(int(v.Kind))
	switch v.Kind {
	case api.Bool, api.Int:
		return b + number(v.N)
	case api.Dec:
		return b + number(v.Scale) + number(v.N)
	case api.Text, api.Bytes:
		return b + number(len(v.S)) + v.S
	}
	return b
}

// partsOf are the numbers and texts that s is encoded as, and which of them are texts.
func partsOf(s api.Schema) ([]string, []int) {
	var e encoder
	e.schema(s)
	return e.parts, e.texts
}

// encoded is the encoding that the chapter describes, also of what is no valid schema.
func encoded(s api.Schema) string {
	parts, _ := partsOf(s)
	return strings.Join(parts, "")
}

// wantBoth wants that b is the encoding of s, and s the schema of that encoding.
func wantBoth(t *testing.T, s api.Schema, b string) {
	t.Helper()
	got, err := schema.Put(roomy(s))
	if err != api.OK || string(got) != b {
		t.Errorf("Put(%v) is %x, %v, want %x", s, got, err, b)
	}
	parsed, ok := schema.Parse([]byte(b))
	if !ok || !equal(parsed, s) {
		t.Errorf("Parse(%x) is %v, %v, want %v", b, parsed, ok, s)
	}
}

// wantNoSchema wants that Parse returns false, and with it the zero schema.
func wantNoSchema(t *testing.T, what, b string) {
	t.Helper()
	s, ok := schema.Parse([]byte(b))
	if ok || s.Version != 0 || s.Next != 0 || len(s.Tables) != 0 {
		t.Errorf("%s: Parse(%x) is %v, %v", what, b, s, ok)
	}
}

// wantNeither wants that s has no encoding, and that what would be its one is no schema's.
func wantNeither(t *testing.T, what string, s api.Schema) {
	t.Helper()
	if b, err := schema.Put(s); err != api.ErrArg || len(b) != 0 {
		t.Errorf("%s: Put(%v) is %x, %v", what, s, b, err)
	}
	wantNoSchema(t, what, encoded(s))
}

// valid are valid schemas of each kind.
func valid() []api.Schema {
	l := []api.Schema{{}, {Version: 300}, {Next: 1}, {Version: most, Next: most}, full(), of(plains(2, 1)...), of(plains(3, 8)...)}
	l = append(l, ofColumns(columns(1, 12)...), ofIndexes(indexes(10, 8)...), ofIndexes(index(99, "i", 4, 6, 1, 2)))
	for what, change := range changes() {
		if !slices.Contains(invalid(), what) {
			l = append(l, changed(change))
		}
	}
	for v, kind := range defaults() {
		l = append(l, typed(kind, v))
	}
	for _, kind := range types() {
		s := typed(kind, api.Value{})
		s.Tables[0].Columns[1].NotNull = true
		l = append(l, s)
	}
	for _, state := range []api.State{api.Delete, api.Write, api.Public} {
		s := ofIndexes(index(10, "i", 2), index(11, "j", 3))
		s.Tables[0].Columns[2].State, s.Tables[0].Indexes[1].State = state, state
		l = append(l, s)
	}
	for _, name := range names() {
		c := columns(1, 1)
		c[0].Name = name
		l = append(l, of(api.Table{Id: 5, Name: name, Columns: c, Indexes: []api.Index{index(6, name, 1)}}))
	}
	big := api.Schema{Version: most, Next: most}
	for i := range 8 {
		big.Tables = append(big.Tables, api.Table{Id: most - 9 + i, Name: strings.Repeat("t", 17+i), Columns: columns(most-12, 12)})
		for j := range 8 {
			big.Tables[i].Indexes = append(big.Tables[i].Indexes, index(most-9+j, strings.Repeat("x", 17+j), most-1, most-3, most-2, most-4))
		}
	}
	return append(l, big)
}

// notValid are schemas that are not valid, each because of one thing.
func notValid() map[string]api.Schema {
	double := columns(1, 2)
	double[1].Name = double[0].Name
	hidden := columns(1, 1)
	hidden[0].State = api.Write
	m := map[string]api.Schema{
		"a negative Version": {Version: -1}, "the least Version": {Version: least}, "a negative Next": {Next: -1}, "the least Next": {Next: least},
		"9 tables": of(plains(2, 9)...), "13 columns": ofColumns(columns(1, 13)...), "9 indexes": ofIndexes(indexes(10, 9)...), "no columns": ofColumns(),
		"tables with equal names":  of(plain(2, "t"), plain(3, "t")),
		"columns with equal names": ofColumns(double...), "no Public column": ofColumns(hidden...),
		"indexes with equal names": ofIndexes(index(10, "i", 1), index(11, "i", 2)),
		"an index of no column":    ofIndexes(index(10, "i")), "an index of 5 columns": ofIndexes(index(10, "i", 1, 2, 3, 4, 5)),
		"a column twice": ofIndexes(index(10, "i", 1, 1)), "a column that is not there": ofIndexes(index(10, "i", 7)), "a negative column": ofIndexes(index(10, "i", -1)),
	}
	for _, what := range invalid() {
		m["change of "+what] = changed(changes()[what])
	}
	return m
}

// P12.2: Put and Parse

func TestWrittenOut(t *testing.T) {
	wantBoth(t, api.Schema{}, "\x00\x00\x00")
	wantBoth(t, api.Schema{Version: 300, Next: 1}, "\x02\x01\x2c\x01\x01\x00")
	s := api.Schema{Version: 3, Next: 300, Tables: []api.Table{{Id: 0, Name: "t", Columns: []api.Column{
		{Id: 1, Name: "a", Type: api.Type{Kind: api.Int}, NotNull: true, State: api.Public},
		{Id: 2, Name: "b_1", Type: api.Type{Kind: api.Dec, Scale: 2}, Default: dec(150, 2), State: api.Write},
	}, Indexes: []api.Index{{Id: 256, Name: "i", Columns: []int{2, 1}, Unique: true, State: api.Delete}}}}}
	wantBoth(t, s, "\x01\x03"+"\x02\x01\x2c"+"\x01\x01"+
		"\x00"+"\x01\x01t"+"\x01\x02"+
		"\x01\x01"+"\x01\x01a"+"\x01\x02"+"\x00"+"\x01\x01"+"\x01\x01\x00"+"\x01\x03"+
		"\x01\x02"+"\x01\x03b_1"+"\x01\x03"+"\x01\x02"+"\x00"+"\x01\x09\x01\x01\x00\x01\x03\x01\x02\x01\x96"+"\x01\x02"+
		"\x01\x01"+
		"\x02\x01\x00"+"\x01\x01i"+"\x01\x02"+"\x01\x02"+"\x01\x01"+"\x01\x01"+"\x01\x01")
}

func TestPutAndParse(t *testing.T) {
	for _, s := range valid() {
		wantBoth(t, s, encoded(s))
	}
}

func TestParseOfWhatPutReturned(t *testing.T) {
	for _, s := range valid() {
		b, err := schema.Put(s)
		if err != api.OK {
			t.Errorf("Put(%v): %v", s, err)
		}
		got, ok := schema.Parse(b)
		if !ok || !schema.Same(got, s) || !schema.Right(got) {
			t.Errorf("Parse(%x) is %v, %v, want %v", b, got, ok, s)
		}
	}
}

func TestPutAndParseOfNoSchema(t *testing.T) {
	for what, s := range notValid() {
		wantNeither(t, what, s)
	}
	for _, name := range notNames() {
		wantNeither(t, "a table without a name", of(plain(2, name)))
		wantNeither(t, "a column without a name", ofColumns(column(1, "a"), column(2, name)))
		wantNeither(t, "an index without a name", ofIndexes(index(10, name, 1)))
	}
	for _, c := range orders() {
		var tables []api.Table
		var columns []api.Column
		var indexes []api.Index
		for i, id := range c.ids {
			name := string(rune('a' + i))
			tables, columns, indexes = append(tables, plain(id, name)), append(columns, column(id, name)), append(indexes, index(id, name, 1))
		}
		for _, s := range []api.Schema{of(tables...), ofColumns(columns...), ofIndexes(indexes...)} {
			if c.want {
				wantBoth(t, s, encoded(s))
			} else {
				wantNeither(t, "Ids that do not ascend to 99", s)
			}
		}
	}
}

func TestPutAndParseOfWrongTypes(t *testing.T) {
	for _, kind := range notTypes() {
		wantNeither(t, "a type that is not valid", typed(kind, api.Value{}))
		wantNeither(t, "a type that is not valid, of its Default", typed(kind, api.Value{Kind: kind.Kind, Scale: kind.Scale}))
	}
	for _, kind := range types() {
		for v, its := range defaults() {
			if its != kind {
				wantNeither(t, "a Default of another type", typed(kind, v))
			}
		}
	}
	for _, state := range notStates {
		s := ofColumns(columns(1, 2)...)
		s.Tables[0].Columns[1].State = state
		wantNeither(t, "a column's State that is none", s)
		s = ofIndexes(indexes(10, 2)...)
		s.Tables[0].Indexes[1].State = state
		wantNeither(t, "an index's State that is none", s)
	}
}

func TestPutOfWrongDefaults(t *testing.T) {
	for _, kind := range types() {
		for _, v := range notDefaults() {
			if b, err := schema.Put(typed(kind, v)); err != api.ErrArg || len(b) != 0 {
				t.Errorf("Put with the Default %v is %x, %v", v, b, err)
			}
		}
	}
}

func TestParseOfBeginningsAndMore(t *testing.T) {
	wantNoSchema(t, "nil", "")
	for _, s := range valid() {
		b := encoded(s)
		// A step, so that the longest ones take no longer than the others.
		for size := 0; size < len(b); size += 1 + len(b)/500 {
			wantNoSchema(t, "a beginning", b[:size])
		}
		for _, more := range []string{"\x00", "\x01", "\x80", "\xff", "\x01\x01", "a", b} {
			wantNoSchema(t, "bytes left over", b+more)
		}
	}
}

// longer are bytes like those of the number, but with a bit of the header that must be 0, or with a leading zero byte.
func longer(number string) []string {
	l := []string{string([]byte{number[0] | 0x10}) + number[1:], string([]byte{number[0] | 0x40}) + number[1:]}
	return append(l, string([]byte{number[0] + 1, 0})+number[1:])
}

func TestParseOfNumbersThatAreNotShort(t *testing.T) {
	for _, s := range []api.Schema{{}, {Version: 300, Next: most}, full()} {
		parts, texts := partsOf(s)
		for i, part := range parts {
			if slices.Contains(texts, i) {
				continue
			}
			for _, other := range longer(part) {
				changed := slices.Clone(parts)
				changed[i] = other
				wantNoSchema(t, "a number that is not short", strings.Join(changed, ""))
			}
		}
	}
}

// wantNoNumber wants that no schema has the encoding of s with one of the other numbers in place of its part i.
func wantNoNumber(t *testing.T, what string, s api.Schema, i int, others ...int) {
	t.Helper()
	parts, _ := partsOf(s)
	for _, n := range others {
		if number(n) == parts[i] {
			continue
		}
		changed := slices.Clone(parts)
		changed[i] = number(n)
		wantNoSchema(t, what, strings.Join(changed, ""))
	}
}

// small is a schema whose parts are easily counted.
func small() api.Schema {
	return ofIndexes(index(10, "i", 1, 2))
}

// partWith is the index of the first part by which the encodings of s and of changed s differ.
func partWith(s api.Schema, change func(s *api.Schema)) int {
	before, _ := partsOf(s)
	s = schema.Copy(s)
	change(&s)
	behind, _ := partsOf(s)
	for i := range before {
		if before[i] != behind[i] {
			return i
		}
	}
	return -1
}

func TestParseOfWrongFlags(t *testing.T) {
	notNull := partWith(small(), func(s *api.Schema) { s.Tables[0].Columns[2].NotNull = true })
	unique := partWith(small(), func(s *api.Schema) { s.Tables[0].Indexes[0].Unique = true })
	wrong := []int{2, 3, -1, -2, 255, 256, 257, 1 << 32, 1<<32 + 1, least, most}
	wantNoNumber(t, "NotNull", small(), notNull, wrong...)
	wantNoNumber(t, "Unique", small(), unique, wrong...)
}

func TestParseOfWrongCounts(t *testing.T) {
	counts := []int{
		2, // Version and Next come before the tables
		partWith(small(), func(s *api.Schema) { s.Tables[0].Columns = s.Tables[0].Columns[:5] }),
		partWith(small(), func(s *api.Schema) { s.Tables[0].Indexes = nil }),
		partWith(small(), func(s *api.Schema) { s.Tables[0].Indexes[0].Columns = []int{1} }),
	}
	wrong := []int{0, 1, 2, 3, 4, 5, 7, 8, 9, 12, 13, 20, 256, 1 << 16, 1 << 32, 1<<32 + 1, 1 << 40, most, -1, -2, least}
	for _, i := range counts {
		wantNoNumber(t, "a list's length", small(), i, wrong...)
	}
	for _, n := range wrong[1:] {
		wantNoSchema(t, "tables that are not there", "\x00\x00"+number(n))
	}
}

func TestParseOfWrongTextLengths(t *testing.T) {
	_, texts := partsOf(small())
	for _, i := range texts {
		wantNoNumber(t, "a text's length", small(), i-1, 0, 1, 2, 3, 4, 24, 25, 200, 256, 1<<32, 1<<32+1, most, -1, -2, least)
	}
}

// TestParseOfLongLists has lists of which all is written, but that are longer than they may be.
func TestParseOfLongLists(t *testing.T) {
	for _, more := range []int{1, 2, 5, 50, 1000} {
		var tables []api.Table
		var columns []api.Column
		var indexes []api.Index
		for i := range api.MaxColumns + more {
			name := "n" + strconv.Itoa(i)
			tables, columns, indexes = append(tables, plain(i, name)), append(columns, column(i, name)), append(indexes, index(i, name, 1))
		}
		for _, s := range []api.Schema{of(tables[:8+more]...), ofColumns(columns[:12+more]...), ofIndexes(indexes[:8+more]...)} {
			s.Next = most
			wantNeither(t, "a list that is too long", s)
		}
		wantNeither(t, "an index of too many columns", ofIndexes(index(10, "i", append([]int{1, 2, 3, 4}, make([]int, more)...)...)))
	}
}

// withDefault is the encoding of a schema with one column, whose Default is written as these bytes.
func withDefault(kind api.Type, b string) string {
	s := ofColumns(api.Column{Id: 1, Name: "a", Type: kind, State: api.Public})
	parts, texts := partsOf(s)
	changed := slices.Clone(parts)
	last := texts[len(texts)-1]
	changed[last-1], changed[last] = number(len(b)), b
	return strings.Join(changed, "")
}

func TestParseOfDefaults(t *testing.T) {
	one := valueBytes(integer(1))
	kind := api.Type{Kind: api.Int}
	wantBoth(t, ofColumns(column(1, "a")), withDefault(kind, "\x00"))
	good := ofColumns(column(1, "a"))
	good.Tables[0].Columns[0].Default = integer(1)
	wantBoth(t, good, withDefault(kind, "\x01\x01\x00"+one))
	for what, b := range map[string]string{
		"no row":                         "",
		"no cells and a byte":            "\x00\x00",
		"a row and a byte":               "\x01\x01\x00" + one + "\x00",
		"a value alone":                  one,
		"a row with another column":      "\x01\x01\x01\x01" + one,
		"a row with a negative column":   "\x01\x01\x80" + one,
		"a row with two columns":         "\x01\x02\x00" + one + "\x01\x01" + one,
		"a row with two other columns":   "\x01\x02\x01\x01" + one + "\x01\x02" + one,
		"a row with column 0 twice":      "\x01\x02\x00" + one + "\x00" + one,
		"a row without its second cell":  "\x01\x02\x00" + one,
		"a row without its value":        "\x01\x01\x00",
		"a row with a Null":              "\x01\x01\x00\x00",
		"a row with a Kind that is none": "\x01\x01\x00\x01\x06",
		"a row with a long count":        "\x02\x00\x01\x00" + one,
		"a row with a long column":       "\x01\x01\x01\x00" + one,
		"a row with a long number":       "\x01\x01\x00\x01\x02\x02\x00\x01",
		"a row with a negative count":    "\x80",
		"bytes that are no number":       "\xff",
		"a Bool of an Int column":        "\x01\x01\x00\x01\x01\x01\x01",
	} {
		wantNoSchema(t, what, withDefault(kind, b))
	}
	for size := range len("\x01\x01\x00" + one) {
		wantNoSchema(t, "a beginning of a row", withDefault(kind, ("\x01\x01\x00" + one)[:size]))
	}
}

func TestParseOfWrongDefaults(t *testing.T) {
	for _, kind := range types() {
		for _, v := range []api.Value{
			boolean(2), boolean(-1), boolean(256), dec(1, -1), dec(1, 7), dec(1, 256), text("\xff"), text("a\x80"),
			text(strings.Repeat("a", api.MaxText+1)), raw(strings.Repeat("a", api.MaxText+1)), {Kind: 6}, {Kind: -1}, {Kind: 258},
		} {
			wantNoSchema(t, "a Default that is not valid", withDefault(kind, "\x01\x01\x00"+valueBytes(v)))
		}
		wantNoSchema(t, "a Default that is a cell with Null", withDefault(kind, "\x01\x01\x00\x00"))
	}
}

// wantOneEncoding wants that b is the encoding of nothing, or of one valid schema alone.
func wantOneEncoding(t *testing.T, b []byte) {
	t.Helper()
	s, ok := schema.Parse(b)
	if !ok {
		wantNoSchema(t, "changed bytes", string(b))
		return
	}
	again, err := schema.Put(s)
	if !schema.Right(s) || err != api.OK || !bytes.Equal(again, b) || encoded(s) != string(b) {
		t.Errorf("Parse(%x) is %v, whose encoding is %x, %v", b, s, again, err)
	}
}

func TestParseOfChangedBytes(t *testing.T) {
	for _, s := range []api.Schema{full(), small(), of(plains(2, 3)...)} {
		b := encoded(s)
		for i := range b {
			for c := range 256 {
				changed := []byte(b)
				changed[i] = byte(c)
				wantOneEncoding(t, changed)
			}
			wantOneEncoding(t, []byte(b[:i]+b[i+1:]))
			wantOneEncoding(t, []byte(b[:i]+"\x00"+b[i:]))
			wantOneEncoding(t, []byte(b[:i]+"\x01"+b[i:]))
		}
	}
}

func TestParseOfChangedParts(t *testing.T) {
	random := rand.New(rand.NewSource(12))
	parts, _ := partsOf(full())
	for range 20000 {
		changed := slices.Clone(parts)
		for range 1 + random.Intn(2) {
			from, to := random.Intn(len(parts)), random.Intn(len(parts))
			changed[to] = parts[from]
		}
		wantOneEncoding(t, []byte(strings.Join(changed, "")))
	}
}

// Rule 5: arguments stay as they are, and results are new memory

func TestResultsAreNewMemory(t *testing.T) {
	for _, s := range valid() {
		first, _ := schema.Put(s)
		second, _ := schema.Put(s)
		clear(first[:cap(first)])
		if string(second) != encoded(s) {
			t.Errorf("two results of Put share memory")
		}
		b := append([]byte(encoded(s)), "\x00\x00\x00"...)[:len(second)]
		parsed, ok := schema.Parse(b)
		again, _ := schema.Parse(b)
		if string(b[:len(b)+3]) != encoded(s)+"\x00\x00\x00" {
			t.Errorf("Parse changed its argument to %x", b[:len(b)+3])
		}
		clear(b[:cap(b)])
		if !ok || !equal(parsed, s) {
			t.Errorf("Parse kept its argument: %v", parsed)
		}
		wantApart(t, "Parse", parsed)
		wantApart(t, "second Parse", again, parsed)
	}
}
