package schema_test

import (
	"math"
	"reflect"
	"slices"
	"strconv"
	"strings"
	"testing"

	"refit/api"
	"refit/schema"
)

const (
	least = math.MinInt
	most  = math.MaxInt
)

func integer(n int) api.Value { return api.Value{Kind: api.Int, N: n} }

func dec(n, scale int) api.Value { return api.Value{Kind: api.Dec, N: n, Scale: scale} }

func text(s string) api.Value { return api.Value{Kind: api.Text, S: s} }

func raw(s string) api.Value { return api.Value{Kind: api.Bytes, S: s} }

func boolean(n int) api.Value { return api.Value{Kind: api.Bool, N: n} }

// column is a Public column of Ints.
func column(id int, name string) api.Column {
	return api.Column{Id: id, Name: name, Type: api.Type{Kind: api.Int}, State: api.Public}
}

// columns are n columns with the Ids from the first one on, and names of their own.
func columns(first, n int) []api.Column {
	var l []api.Column
	for i := range n {
		l = append(l, column(first+i, "c"+string(rune('a'+i))))
	}
	return l
}

// index is a Public index of these columns.
func index(id int, name string, columns ...int) api.Index {
	return api.Index{Id: id, Name: name, Columns: columns, State: api.Public}
}

// indexes are n indexes of column 1 with the Ids from the first one on, and names of their own.
func indexes(first, n int) []api.Index {
	var l []api.Index
	for i := range n {
		l = append(l, index(first+i, "i"+string(rune('a'+i)), 1))
	}
	return l
}

// plain is a table with one column, of the Id 1.
func plain(id int, name string) api.Table {
	return api.Table{Id: id, Name: name, Columns: columns(1, 1)}
}

// plains are n such tables with the Ids from the first one on, and names of their own.
func plains(first, n int) []api.Table {
	var l []api.Table
	for i := range n {
		l = append(l, plain(first+i, "t"+string(rune('a'+i))))
	}
	return l
}

// of is a schema of these tables.
func of(tables ...api.Table) api.Schema { return api.Schema{Version: 1, Next: 100, Tables: tables} }

// ofColumns is a schema of one table with these columns.
func ofColumns(columns ...api.Column) api.Schema {
	return of(api.Table{Id: 0, Name: "t", Columns: columns})
}

// ofIndexes is a schema of one table with the columns 1 to 6 and these indexes.
func ofIndexes(indexes ...api.Index) api.Schema {
	return of(api.Table{Id: 0, Name: "t", Columns: columns(1, 6), Indexes: indexes})
}

// full is a valid schema that has each Kind of type and Default, each State, and more than one part in most lists.
func full() api.Schema {
	return api.Schema{Version: 7, Next: 300, Tables: []api.Table{
		{Id: 0, Name: "first", Columns: []api.Column{
			{Id: 1, Name: "a", Type: api.Type{Kind: api.Int}, NotNull: true, Default: integer(-5), State: api.Public},
			{Id: 2, Name: "b", Type: api.Type{Kind: api.Bool}, Default: boolean(1), State: api.Write},
			{Id: 3, Name: "b", Type: api.Type{Kind: api.Dec, Scale: 2}, Default: dec(150, 2), State: api.Delete},
			{Id: 4, Name: "b", Type: api.Type{Kind: api.Text}, Default: text("it's"), State: api.Public},
			{Id: 6, Name: "c_2", Type: api.Type{Kind: api.Bytes}, NotNull: true, Default: raw("\x00\xff"), State: api.Public},
			{Id: 256, Name: "d", Type: api.Type{Kind: api.Dec, Scale: 6}, State: api.Public},
		}, Indexes: []api.Index{
			{Id: 5, Name: "i", Columns: []int{4, 1}, Unique: true, State: api.Public},
			{Id: 8, Name: "j", Columns: []int{2, 1, 256, 3}, State: api.Delete},
			{Id: 9, Name: "k", Columns: []int{1}, State: api.Write},
		}},
		{Id: 7, Name: "second", Columns: []api.Column{
			{Id: 10, Name: "a", Type: api.Type{Kind: api.Bool}, Default: boolean(0), State: api.Public},
			{Id: 11, Name: "b", Type: api.Type{Kind: api.Text}, State: api.Write},
		}, Indexes: []api.Index{
			{Id: 12, Name: "i", Columns: []int{11}, Unique: true, State: api.Write},
		}},
		{Id: 20, Name: "third", Columns: []api.Column{
			{Id: 299, Name: "x", Type: api.Type{Kind: api.Dec}, NotNull: true, Default: dec(7, 0), State: api.Public},
		}, Indexes: []api.Index{
			{Id: 22, Name: "y", Columns: []int{299}, State: api.Public},
		}},
	}}
}

// changes are changes of full, each of one part.
func changes() map[string]func(s *api.Schema) {
	return map[string]func(s *api.Schema){
		"Version":               func(s *api.Schema) { s.Version++ },
		"Next":                  func(s *api.Schema) { s.Next++ },
		"a table's Id":          func(s *api.Schema) { s.Tables[1].Id = 19 },
		"the last table's Id":   func(s *api.Schema) { s.Tables[2].Id++ },
		"a table's Name":        func(s *api.Schema) { s.Tables[1].Name = "fourth" },
		"a column's Id":         func(s *api.Schema) { s.Tables[0].Columns[4].Id = 7 },
		"a column's Name":       func(s *api.Schema) { s.Tables[0].Columns[5].Name = "e" },
		"a column's Kind":       func(s *api.Schema) { s.Tables[1].Columns[1].Type.Kind = api.Bytes },
		"a column's Scale":      func(s *api.Schema) { s.Tables[0].Columns[5].Type.Scale = 5 },
		"a column's NotNull":    func(s *api.Schema) { s.Tables[0].Columns[0].NotNull = false },
		"a Default's Kind":      func(s *api.Schema) { s.Tables[1].Columns[0].Default = api.Value{} },
		"a Default's N":         func(s *api.Schema) { s.Tables[0].Columns[0].Default.N = 5 },
		"a Default's Scale":     func(s *api.Schema) { s.Tables[0].Columns[2].Default.Scale = 3 },
		"a Default's S":         func(s *api.Schema) { s.Tables[0].Columns[3].Default.S = "its" },
		"a Default behind Null": func(s *api.Schema) { s.Tables[0].Columns[5].Default.N = 1 },
		"a column's State":      func(s *api.Schema) { s.Tables[0].Columns[5].State = api.Write },
		"an index's Id":         func(s *api.Schema) { s.Tables[0].Indexes[1].Id = 7 },
		"an index's Name":       func(s *api.Schema) { s.Tables[0].Indexes[2].Name = "l" },
		"an index's column":     func(s *api.Schema) { s.Tables[0].Indexes[1].Columns[3] = 4 },
		"an index's order":      func(s *api.Schema) { slices.Reverse(s.Tables[0].Indexes[0].Columns) },
		"an index's Unique":     func(s *api.Schema) { s.Tables[2].Indexes[0].Unique = true },
		"an index's State":      func(s *api.Schema) { s.Tables[2].Indexes[0].State = api.Delete },
		"one table less":        func(s *api.Schema) { s.Tables = s.Tables[:2] },
		"the first table less":  func(s *api.Schema) { s.Tables = s.Tables[1:] },
		"no table":              func(s *api.Schema) { s.Tables = nil },
		"one table more":        func(s *api.Schema) { s.Tables = append(s.Tables, plain(21, "fourth")) },
		"the tables' order":     func(s *api.Schema) { slices.Reverse(s.Tables) },
		"one column less":       func(s *api.Schema) { s.Tables[0].Columns = s.Tables[0].Columns[:5] },
		"no column":             func(s *api.Schema) { s.Tables[2].Columns = nil },
		"one column more": func(s *api.Schema) {
			s.Tables[1].Columns = append(s.Tables[1].Columns, column(12, "c"))
		},
		"the columns' order": func(s *api.Schema) { slices.Reverse(s.Tables[1].Columns) },
		"one index less":     func(s *api.Schema) { s.Tables[0].Indexes = s.Tables[0].Indexes[:2] },
		"no index":           func(s *api.Schema) { s.Tables[2].Indexes = nil },
		"one index more": func(s *api.Schema) {
			s.Tables[1].Indexes = append(s.Tables[1].Indexes, index(13, "j", 10))
		},
		"the indexes' order": func(s *api.Schema) { slices.Reverse(s.Tables[0].Indexes) },
		"one part less": func(s *api.Schema) {
			s.Tables[0].Indexes[0].Columns = s.Tables[0].Indexes[0].Columns[:1]
		},
		"no part": func(s *api.Schema) { s.Tables[0].Indexes[2].Columns = nil },
		"one part more": func(s *api.Schema) {
			s.Tables[0].Indexes[2].Columns = append(s.Tables[0].Indexes[2].Columns, 2)
		},
	}
}

// changed is full after one of its changes.
func changed(change func(s *api.Schema)) api.Schema {
	s := full()
	change(&s)
	return s
}

// spare returns l with spare capacity behind it, which no call may change or hand out.
func spare[T any](l []T, behind T) []T {
	return append(slices.Clone(l), behind, behind, behind)[:len(l)]
}

// roomy returns s with spare capacity behind each of its lists.
func roomy(s api.Schema) api.Schema {
	s.Tables = spare(s.Tables, plain(77, "behind"))
	for i := range s.Tables {
		t := &s.Tables[i]
		t.Columns = spare(t.Columns, column(78, "behind"))
		t.Indexes = spare(t.Indexes, index(79, "behind", 78))
		for j := range t.Indexes {
			t.Indexes[j].Columns = spare(t.Indexes[j].Columns, 80)
		}
	}
	return s
}

// whole is s with the spare capacity of all its lists, in new memory.
func whole(s api.Schema) api.Schema {
	s.Tables = slices.Clone(s.Tables[:cap(s.Tables)])
	for i := range s.Tables {
		t := &s.Tables[i]
		t.Columns = slices.Clone(t.Columns[:cap(t.Columns)])
		t.Indexes = slices.Clone(t.Indexes[:cap(t.Indexes)])
		for j := range t.Indexes {
			x := &t.Indexes[j]
			x.Columns = slices.Clone(x.Columns[:cap(x.Columns)])
		}
	}
	return s
}

// places are the addresses of all that the lists of s hold, behind their ends too.
func places(s api.Schema) []any {
	l := addresses(s.Tables)
	for _, t := range s.Tables {
		l = append(l, addresses(t.Columns)...)
		l = append(l, addresses(t.Indexes)...)
		for _, x := range t.Indexes {
			l = append(l, addresses(x.Columns)...)
		}
	}
	return l
}

func addresses[T any](l []T) []any {
	var places []any
	l = l[:cap(l)]
	for i := range l {
		places = append(places, &l[i])
	}
	return places
}

// wantApart wants that the lists of result share no memory with each other, nor with those of others.
func wantApart(t *testing.T, what string, result api.Schema, others ...api.Schema) {
	t.Helper()
	seen := map[any]bool{}
	for _, other := range others {
		for _, place := range places(other) {
			seen[place] = true
		}
	}
	for _, place := range places(result) {
		if seen[place] {
			t.Errorf("%s: a %T of the result is in another list too", what, place)
		}
		seen[place] = true
	}
}

// equal is what Same has to answer, found in another way; nil and empty lists are equal.
func equal(a, b api.Schema) bool { return reflect.DeepEqual(withoutEmpty(a), withoutEmpty(b)) }

// withoutEmpty is s, in new memory, with nil for empty lists.
func withoutEmpty(s api.Schema) api.Schema {
	s.Tables = append([]api.Table(nil), s.Tables...)
	for i := range s.Tables {
		t := &s.Tables[i]
		t.Columns = append([]api.Column(nil), t.Columns...)
		t.Indexes = append([]api.Index(nil), t.Indexes...)
		for j := range t.Indexes {
			t.Indexes[j].Columns = append([]int(nil), t.Indexes[j].Columns...)
		}
	}
	return s
}

// P12.3: Table, Column, ColumnId, Index

// wantPlace wants the place of what was asked for.
func wantPlace(t *testing.T, what string, asked any, got, want int) {
	t.Helper()
	if got != want {
		t.Errorf("%s(%v) is %d, want %d", what, asked, got, want)
	}
}

// absentNames are names of nothing in full, and texts that are no names.
func absentNames() []string {
	return []string{"", "z", "A", "aa", "a ", " a", "firs", "first1", "FIRST", "\x00", "\xff", strings.Repeat("a", 1000)}
}

func TestTable(t *testing.T) {
	s := full()
	for i, name := range []string{"first", "second", "third"} {
		wantPlace(t, "Table", name, schema.Table(s, name), i)
	}
	for _, name := range append(absentNames(), "a", "i") {
		wantPlace(t, "Table", name, schema.Table(s, name), -1)
		wantPlace(t, "Table of no tables", name, schema.Table(api.Schema{}, name), -1)
		wantPlace(t, "Table of empty tables", name, schema.Table(api.Schema{Tables: []api.Table{}}, name), -1)
	}
	twice := of(plain(0, "t"), plain(1, "u"), plain(2, "t"), plain(3, "u"), plain(4, ""), plain(5, ""))
	for name, want := range map[string]int{"t": 0, "u": 1, "": 4} {
		wantPlace(t, "Table of tables with equal names", name, schema.Table(twice, name), want)
	}
}

func TestColumn(t *testing.T) {
	first := full().Tables[0]
	for name, want := range map[string]int{"a": 0, "b": 3, "c_2": 4, "d": 5} {
		wantPlace(t, "Column", name, schema.Column(first, name), want)
	}
	for _, name := range append(absentNames(), "first", "i") {
		wantPlace(t, "Column", name, schema.Column(first, name), -1)
		wantPlace(t, "Column of no columns", name, schema.Column(api.Table{}, name), -1)
		wantPlace(t, "Column of empty columns", name, schema.Column(api.Table{Columns: []api.Column{}}, name), -1)
	}
	twice := api.Table{Columns: []api.Column{column(1, "a"), column(2, "b"), column(3, "a"), column(4, "b"), column(5, ""), column(6, "")}}
	for name, want := range map[string]int{"a": 0, "b": 1, "": 4} {
		wantPlace(t, "Column of columns with equal names", name, schema.Column(twice, name), want)
	}
}

func TestColumnThatIsNotPublic(t *testing.T) {
	for _, state := range []api.State{api.Absent, api.Delete, api.Write, -1, 4, api.State(most), api.State(least)} {
		hidden := column(1, "a")
		hidden.State = state
		alone := api.Table{Columns: []api.Column{hidden}}
		wantPlace(t, "Column that is not Public", state, schema.Column(alone, "a"), -1)
		wantPlace(t, "ColumnId of a column that is not Public", state, schema.ColumnId(alone, 1), 0)
		before := api.Table{Columns: []api.Column{hidden, column(2, "a"), column(3, "a")}}
		wantPlace(t, "Column behind one that is not Public", state, schema.Column(before, "a"), 1)
		behind := api.Table{Columns: []api.Column{column(0, "a"), hidden}}
		wantPlace(t, "Column before one that is not Public", state, schema.Column(behind, "a"), 0)
	}
}

func TestColumnId(t *testing.T) {
	first := full().Tables[0]
	for i, c := range first.Columns {
		wantPlace(t, "ColumnId", c.Id, schema.ColumnId(first, c.Id), i)
	}
	// 5, 8 and 9 are indexes.
	for _, id := range []int{-1, 0, 5, 7, 8, 9, 10, 257, 299, 300, least, most} {
		wantPlace(t, "ColumnId", id, schema.ColumnId(first, id), -1)
		wantPlace(t, "ColumnId of no columns", id, schema.ColumnId(api.Table{}, id), -1)
		wantPlace(t, "ColumnId of empty columns", id, schema.ColumnId(api.Table{Columns: []api.Column{}}, id), -1)
	}
	odd := api.Table{Columns: []api.Column{column(5, "a"), column(2, "b"), column(5, "c"), column(2, "d"), column(-1, "e"), column(least, "f")}}
	for id, want := range map[int]int{5: 0, 2: 1, -1: 4, least: 5, 0: -1, most: -1} {
		wantPlace(t, "ColumnId of columns with equal Ids", id, schema.ColumnId(odd, id), want)
	}
}

func TestIndex(t *testing.T) {
	first := full().Tables[0]
	for i, name := range []string{"i", "j", "k"} {
		wantPlace(t, "Index", name, schema.Index(first, name), i)
	}
	for _, name := range append(absentNames(), "a", "b", "y") {
		wantPlace(t, "Index", name, schema.Index(first, name), -1)
		wantPlace(t, "Index of no indexes", name, schema.Index(api.Table{}, name), -1)
		wantPlace(t, "Index of empty indexes", name, schema.Index(api.Table{Indexes: []api.Index{}}, name), -1)
	}
	twice := api.Table{Indexes: []api.Index{index(1, "i"), index(2, "j"), index(3, "i"), index(4, "j"), index(5, ""), index(6, "")}}
	for name, want := range map[string]int{"i": 0, "j": 1, "": 4} {
		wantPlace(t, "Index of indexes with equal names", name, schema.Index(twice, name), want)
	}
	for _, state := range []api.State{api.Absent, api.Delete, api.Write, api.Public, -1, 4} {
		twice.Indexes[1].State = state
		wantPlace(t, "Index of a State", state, schema.Index(twice, "j"), 1)
	}
}

// P12.3: Copy

// copied are schemas to copy, valid or not.
func copied() []api.Schema {
	l := []api.Schema{{}, {Tables: []api.Table{}}, {Version: least, Next: most}, full(), of(plains(2, 3)...)}
	l = append(l, of(api.Table{}), of(api.Table{Columns: []api.Column{}, Indexes: []api.Index{}}))
	l = append(l, of(api.Table{Indexes: []api.Index{{}, {Columns: []int{}}}}))
	for _, change := range changes() {
		l = append(l, changed(change))
	}
	return l
}

func TestCopyIsEqual(t *testing.T) {
	for _, s := range copied() {
		s = roomy(s)
		before := whole(s)
		got := schema.Copy(s)
		if !equal(got, s) {
			t.Errorf("Copy(%v) is %v", s, got)
		}
		if !equal(whole(s), before) {
			t.Errorf("Copy changed %v to %v", before, whole(s))
		}
	}
}

func TestCopyIsIndependent(t *testing.T) {
	for what, change := range changes() {
		s := roomy(full())
		c := schema.Copy(s)
		change(&c)
		if !equal(s, full()) {
			t.Errorf("%s of a copy changed the schema to %v", what, s)
		}
		c = schema.Copy(s)
		change(&s)
		if !equal(c, full()) {
			t.Errorf("%s of the schema changed its copy to %v", what, c)
		}
	}
}

func TestCopySharesNoMemory(t *testing.T) {
	for i, s := range copied() {
		s = roomy(s)
		first := schema.Copy(s)
		wantApart(t, "Copy of schema "+strconv.Itoa(i), first, s)
		wantApart(t, "second Copy of schema "+strconv.Itoa(i), schema.Copy(s), s, first)
	}
	// The parts of an argument may share what those of a result must not.
	parts := []int{1, 2}
	two := []api.Index{index(3, "i", parts...), index(4, "j", parts...)}
	shared := of(plain(0, "t"), plain(1, "u"))
	shared.Tables[1].Columns = shared.Tables[0].Columns
	shared.Tables[0].Indexes, shared.Tables[1].Indexes = two, two
	c := schema.Copy(shared)
	wantApart(t, "Copy of shared lists", c, shared)
	if !equal(c, shared) {
		t.Errorf("Copy of shared lists is %v", c)
	}
}

// P12.3: Same

func TestSame(t *testing.T) {
	l := copied()
	for i, a := range l {
		for j, b := range l {
			if want := equal(a, b); schema.Same(roomy(a), b) != want {
				t.Errorf("Same of schema %d and %d is %v: %v and %v", i, j, !want, a, b)
			}
		}
	}
}

func TestSameOfOneDifference(t *testing.T) {
	for what, change := range changes() {
		s := changed(change)
		if schema.Same(full(), s) || schema.Same(s, full()) {
			t.Errorf("%s makes no difference", what)
		}
		if !schema.Same(s, changed(change)) {
			t.Errorf("after a change of %s equal schemas are not the same", what)
		}
	}
	if !schema.Same(full(), full()) {
		t.Errorf("equal schemas are not the same")
	}
}

func TestSameOfNilAndEmpty(t *testing.T) {
	none := of(api.Table{Id: 1, Name: "t", Indexes: []api.Index{{Id: 2}}})
	empty := of(api.Table{Id: 1, Name: "t", Columns: []api.Column{}, Indexes: []api.Index{{Id: 2, Columns: []int{}}}})
	if !schema.Same(none, empty) || !schema.Same(empty, none) {
		t.Errorf("nil and empty lists of columns are not the same")
	}
	if !schema.Same(of(plain(0, "t")), of(api.Table{Id: 0, Name: "t", Columns: columns(1, 1), Indexes: []api.Index{}})) {
		t.Errorf("nil and empty lists of indexes are not the same")
	}
	if !schema.Same(api.Schema{}, api.Schema{Tables: []api.Table{}}) || !schema.Same(api.Schema{Tables: []api.Table{}}, api.Schema{}) {
		t.Errorf("nil and empty lists of tables are not the same")
	}
	if schema.Same(api.Schema{}, api.Schema{Tables: []api.Table{{}}}) || schema.Same(api.Schema{Tables: []api.Table{{}}}, api.Schema{}) {
		t.Errorf("no table is the same as a zero one")
	}
}

// Rule 5: arguments stay as they are

func TestArgumentsAreKept(t *testing.T) {
	for _, s := range copied() {
		s = roomy(s)
		before := whole(s)
		schema.Right(s)
		schema.Put(s)
		schema.Table(s, "second")
		schema.Same(s, s)
		for _, table := range s.Tables {
			schema.Column(table, "b")
			schema.ColumnId(table, 4)
			schema.Index(table, "j")
		}
		if !equal(whole(s), before) {
			t.Errorf("%v became %v", before, whole(s))
		}
	}
}
