package schema_test

import (
	"fmt"
	"slices"
	"strings"
	"testing"

	"refit/api"
	"refit/schema"
)

// names are valid names.
func names() []string {
	return []string{
		"a", "z", "m", "a_1", "t", "aa", "a0", "a9", "a_", "a__", "z_9", "abcdefghijklmnopqrstuvwx",
		"a" + strings.Repeat("_", api.MaxWord-1), "z" + strings.Repeat("9", api.MaxWord-1), strings.Repeat("x", api.MaxWord),
	}
}

// notNames are texts that are no names.
func notNames() []string {
	l := []string{
		"", "1a", "0", "9a", "_", "_a", "A", "Aa", "Z", "Z_1", "aA", "aZ", "abC", "a b", " a", "a ", "a-b", "a.b", "a\n", "\ta", "\x00",
		"a\x00", "é", "aé", "\uff41", "a\uff41", "a\u0663", "a\u2177", "\u03b1", "\xff", "a\xff", "\xc3", "a\xe1", "a\xed\xa0\x80", "a\ufffd", "\u0161b", "a\u0131",
		strings.Repeat("x", api.MaxWord+1), strings.Repeat("x", 1000), strings.Repeat("é", 12), "a" + strings.Repeat("é", 12),
	}
	return append(l, strings.Repeat("x", api.MaxWord-1)+"X", strings.Repeat("x", api.MaxWord)+"\x00")
}

// wantRight wants that the schema is valid, or that it is not, with spare capacity behind its lists or not.
func wantRight(t *testing.T, what string, s api.Schema, want bool) {
	t.Helper()
	if schema.Right(s) != want || schema.Right(roomy(s)) != want {
		t.Errorf("%s: Right is %v: %v", what, !want, s)
	}
}

// P12.1: Name

func TestName(t *testing.T) {
	for _, s := range names() {
		if !schema.Name(s) {
			t.Errorf("Name(%q) is false", s)
		}
	}
	for _, s := range notNames() {
		if schema.Name(s) {
			t.Errorf("Name(%q) is true", s)
		}
	}
}

func TestNameOfEachByte(t *testing.T) {
	const (
		first = "abcdefghijklmnopqrstuvwxyz"
		later = first + "0123456789_"
	)
	for i := range 256 {
		c := string([]byte{byte(i)})
		if got, want := schema.Name(c), strings.Contains(first, c); got != want {
			t.Errorf("Name(%q) is %v", c, got)
		}
		if got, want := schema.Name(c+"a"), strings.Contains(first, c); got != want {
			t.Errorf("Name(%q) is %v", c+"a", got)
		}
		for _, s := range []string{"a" + c, "a" + c + "a", "b_2" + c, strings.Repeat("a", api.MaxWord-1) + c} {
			if got, want := schema.Name(s), strings.Contains(later, c); got != want {
				t.Errorf("Name(%q) is %v", s, got)
			}
		}
	}
}

func TestNameOfEachLength(t *testing.T) {
	for n := range 4 * api.MaxWord {
		if got, want := schema.Name(strings.Repeat("a", n)), n >= 1 && n <= 24; got != want {
			t.Errorf("Name of %d bytes is %v", n, got)
		}
	}
}

// P12.1: Right

func TestRightOfWholeSchemas(t *testing.T) {
	wantRight(t, "the zero schema", api.Schema{}, true)
	wantRight(t, "empty tables", api.Schema{Tables: []api.Table{}}, true)
	wantRight(t, "one of everything", full(), true)
	for _, version := range []int{0, 1, 1 << 32, most} {
		wantRight(t, "a Version", api.Schema{Version: version}, true)
		wantRight(t, "a Next", api.Schema{Next: version}, true)
	}
	for _, version := range []int{-1, -2, -1 << 32, least} {
		wantRight(t, "a negative Version", api.Schema{Version: version}, false)
		wantRight(t, "a negative Version of a schema with tables", api.Schema{Version: version, Next: 2, Tables: plains(0, 1)}, false)
		wantRight(t, "a negative Next", api.Schema{Next: version}, false)
		wantRight(t, "a negative Next of a schema with tables", api.Schema{Next: version, Tables: plains(0, 1)}, false)
	}
}

func TestRightOfTables(t *testing.T) {
	for n := range 2 * api.MaxTables {
		wantRight(t, fmt.Sprint(n, " tables"), of(plains(2, n)...), n <= 8)
	}
	wantRight(t, "equal names", of(plain(2, "t"), plain(3, "t")), false)
	wantRight(t, "equal names of other tables", of(plain(2, "t"), plain(3, "u"), plain(4, "v"), plain(5, "u")), false)
	wantRight(t, "different names", of(plain(2, "t"), plain(3, "tt"), plain(4, "t_"), plain(5, "t1")), true)
	for _, name := range names() {
		wantRight(t, "a table's name", of(plain(2, name)), true)
	}
	for _, name := range notNames() {
		wantRight(t, "a table without a name", of(plain(2, name)), false)
		wantRight(t, "a second table without a name", of(plain(2, "t"), plain(3, name)), false)
	}
}

// orders are lists of Ids, and whether these ascend from 0 to 99.
func orders() []struct {
	ids  []int
	want bool
} {
	return []struct {
		ids  []int
		want bool
	}{
		{[]int{0}, true}, {[]int{1}, true}, {[]int{98}, true}, {[]int{99}, true}, {[]int{100}, false}, {[]int{101}, false},
		{[]int{most}, false}, {[]int{-1}, false}, {[]int{-2}, false}, {[]int{least}, false},
		{[]int{0, 1}, true}, {[]int{0, 99}, true}, {[]int{98, 99}, true}, {[]int{5, 50}, true}, {[]int{4, 6, 90}, true},
		{[]int{0, 0}, false}, {[]int{5, 5}, false}, {[]int{99, 99}, false}, {[]int{3, 5, 5}, false}, {[]int{3, 3, 5}, false},
		{[]int{1, 0}, false}, {[]int{99, 0}, false}, {[]int{6, 5}, false}, {[]int{3, 2, 4}, false}, {[]int{3, 5, 4}, false}, {[]int{3, 5, 2}, false},
		{[]int{-1, 0}, false}, {[]int{0, -1}, false}, {[]int{-2, -1}, false}, {[]int{least, 0}, false}, {[]int{least, most}, false},
		{[]int{0, 100}, false}, {[]int{99, 100}, false}, {[]int{0, 1, most}, false}, {[]int{100, 101}, false}, {[]int{100, 0}, false},
	}
}

func TestRightOfIds(t *testing.T) {
	for _, c := range orders() {
		var tables []api.Table
		var columns []api.Column
		var indexes []api.Index
		for i, id := range c.ids {
			name := string(rune('a' + i))
			tables = append(tables, plain(id, name))
			columns = append(columns, column(id, name))
			indexes = append(indexes, index(id, name, 1))
		}
		wantRight(t, fmt.Sprint("tables with the Ids ", c.ids), of(tables...), c.want)
		wantRight(t, fmt.Sprint("columns with the Ids ", c.ids), ofColumns(columns...), c.want)
		wantRight(t, fmt.Sprint("indexes with the Ids ", c.ids), ofIndexes(indexes...), c.want)
		hidden := slices.Clone(columns)
		for i := range hidden[1:] {
			hidden[i+1].State = api.Delete
		}
		wantRight(t, fmt.Sprint("columns that are not Public with the Ids ", c.ids), ofColumns(hidden...), c.want)
		second := of(plain(0, "t"), api.Table{Id: 1, Name: "u", Columns: columns})
		wantRight(t, fmt.Sprint("columns of a second table with the Ids ", c.ids), second, c.want)
		second = of(plain(0, "t"), api.Table{Id: 1, Name: "u", Columns: ofIndexes().Tables[0].Columns, Indexes: indexes})
		wantRight(t, fmt.Sprint("indexes of a second table with the Ids ", c.ids), second, c.want)
	}
}

func TestRightOfNext(t *testing.T) {
	high := api.Table{Id: 3, Name: "t", Columns: []api.Column{column(5, "a")}, Indexes: []api.Index{index(7, "i", 5)}}
	for next := range 12 {
		s := of(high)
		s.Next = next
		wantRight(t, fmt.Sprint("Ids up to 7 and Next ", next), s, next > 7)
	}
	last := plain(most-1, "t")
	wantRight(t, "the greatest Id", api.Schema{Next: most, Tables: []api.Table{last}}, true)
	last.Id = most
	wantRight(t, "an Id that is Next, the greatest number", api.Schema{Next: most, Tables: []api.Table{last}}, false)
}

func TestRightOfEqualIdsOfDifferentThings(t *testing.T) {
	// The chapter has the Ids of each list ascend, but not differ from those of other lists.
	same := api.Table{Id: 1, Name: "t", Columns: columns(1, 2), Indexes: []api.Index{index(1, "i", 2), index(2, "j", 1)}}
	wantRight(t, "a table, a column and an index with equal Ids", of(same), true)
	wantRight(t, "columns of two tables with equal Ids", of(plain(0, "t"), plain(1, "u")), true)
	both := api.Table{Id: 2, Name: "a", Columns: []api.Column{column(4, "a")}, Indexes: []api.Index{index(5, "a", 4)}}
	other := api.Table{Id: 3, Name: "b", Columns: []api.Column{column(6, "a")}, Indexes: []api.Index{index(7, "a", 6)}}
	wantRight(t, "equal names of different things", of(both, other), true)
}

func TestRightOfColumns(t *testing.T) {
	for n := range 2 * api.MaxColumns {
		wantRight(t, fmt.Sprint(n, " columns"), ofColumns(columns(1, n)...), 1 <= n && n <= 12)
		second := of(plain(0, "t"), api.Table{Id: 1, Name: "u", Columns: columns(1, n)})
		wantRight(t, fmt.Sprint(n, " columns of a second table"), second, 1 <= n && n <= 12)
	}
	// All States count.
	many := columns(1, 13)
	for i := range many[1:] {
		many[1+i].State = api.Delete
	}
	wantRight(t, "12 columns, of which one is Public", ofColumns(many[:12]...), true)
	wantRight(t, "13 columns, of which one is Public", ofColumns(many...), false)
	wantRight(t, "no columns, but empty ones", ofColumns([]api.Column{}...), false)
	for _, name := range names() {
		wantRight(t, "a column's name", ofColumns(column(1, name)), true)
	}
	for _, name := range notNames() {
		for _, state := range []api.State{api.Delete, api.Write, api.Public} {
			nameless := column(2, name)
			nameless.State = state
			wantRight(t, "a column without a name", ofColumns(column(1, "a"), nameless), false)
		}
	}
}

// types are all valid types.
func types() []api.Type {
	l := []api.Type{{Kind: api.Bool}, {Kind: api.Int}, {Kind: api.Text}, {Kind: api.Bytes}}
	for scale := range 7 {
		l = append(l, api.Type{Kind: api.Dec, Scale: scale})
	}
	return l
}

// notTypes are types that are not valid.
func notTypes() []api.Type {
	l := []api.Type{{}, {Scale: 1}}
	for _, kind := range []api.Kind{api.Null, -1, 6, 7, 255, 256, 258, 1 << 32, 1<<32 + 2, least, most} {
		l = append(l, api.Type{Kind: kind})
	}
	for _, scale := range []int{-1, 7, 8, 256, 1 << 32, least, most} {
		l = append(l, api.Type{Kind: api.Dec, Scale: scale})
	}
	for _, kind := range []api.Kind{api.Null, api.Bool, api.Int, api.Text, api.Bytes} {
		l = append(l, api.Type{Kind: kind, Scale: 1}, api.Type{Kind: kind, Scale: -1})
	}
	return l
}

// defaults are valid values, each with the only type that it has; Null has all.
func defaults() map[api.Value]api.Type {
	m := map[api.Value]api.Type{
		boolean(0): {Kind: api.Bool}, boolean(1): {Kind: api.Bool},
		integer(0): {Kind: api.Int}, integer(300): {Kind: api.Int}, integer(least): {Kind: api.Int}, integer(most): {Kind: api.Int},
		text(""): {Kind: api.Text}, text("a\x00é'"): {Kind: api.Text}, text(strings.Repeat("a", api.MaxText)): {Kind: api.Text},
		raw(""): {Kind: api.Bytes}, raw("\x00\xff"): {Kind: api.Bytes}, raw(strings.Repeat("\xff", api.MaxText)): {Kind: api.Bytes},
	}
	for scale := range 7 {
		for _, n := range []int{0, 150, -1, least, most} {
			m[dec(n, scale)] = api.Type{Kind: api.Dec, Scale: scale}
		}
	}
	return m
}

// notDefaults are values that are not valid.
func notDefaults() []api.Value {
	return []api.Value{
		{N: 1}, {Scale: 1}, {S: "a"}, {Kind: 6}, {Kind: -1}, {Kind: 1<<32 + 2, N: 1},
		boolean(2), boolean(-1), {Kind: api.Bool, Scale: 1}, {Kind: api.Bool, N: 1, S: "a"},
		{Kind: api.Int, N: 5, Scale: 1}, {Kind: api.Int, S: "5"},
		dec(1, -1), dec(1, 7), {Kind: api.Dec, Scale: 2, S: "a"},
		{Kind: api.Text, N: 1, S: "a"}, {Kind: api.Text, Scale: 1}, text("\xff"), text(strings.Repeat("a", api.MaxText+1)),
		{Kind: api.Bytes, N: 1, S: "a"}, {Kind: api.Bytes, Scale: 1}, raw(strings.Repeat("a", api.MaxText+1)),
	}
}

// typed is a schema with a column of that type and Default.
func typed(kind api.Type, v api.Value) api.Schema {
	return ofColumns(column(1, "a"), api.Column{Id: 2, Name: "b", Type: kind, Default: v, State: api.Public})
}

func TestRightOfTypesAndDefaults(t *testing.T) {
	for _, kind := range types() {
		wantRight(t, "a type with Null as its Default", typed(kind, api.Value{}), true)
		for v, its := range defaults() {
			wantRight(t, "a type and a Default", typed(kind, v), kind == its)
		}
		for _, v := range notDefaults() {
			wantRight(t, "a Default that is not valid", typed(kind, v), false)
		}
		needed := typed(kind, api.Value{})
		needed.Tables[0].Columns[1].NotNull = true
		wantRight(t, "a column that is NotNull with Null as its Default", needed, true)
	}
	for _, kind := range notTypes() {
		for _, state := range []api.State{api.Delete, api.Write, api.Public} {
			for _, v := range []api.Value{{}, integer(1), dec(1, kind.Scale), {Kind: kind.Kind, Scale: kind.Scale}} {
				s := typed(kind, v)
				s.Tables[0].Columns[1].State = state
				wantRight(t, "a type that is not valid", s, false)
			}
		}
	}
}

// notStates are States that nothing in a schema has.
var notStates = [...]api.State{api.Absent, -1, -2, 4, 5, 255, 256, 257, 1 << 32, 1<<32 + 1, least, most}

func TestRightOfColumnStates(t *testing.T) {
	for _, state := range []api.State{api.Delete, api.Write, api.Public} {
		c := column(2, "b")
		c.State = state
		wantRight(t, "a column's State", ofColumns(column(1, "a"), c), true)
		c.Id = 0
		wantRight(t, "a first column's State", ofColumns(c, column(1, "a")), true)
		wantRight(t, "an only column's State", ofColumns(c), state == api.Public)
		d := column(1, "a")
		for _, other := range []api.State{api.Delete, api.Write} {
			d.State = other
			wantRight(t, "two columns' States", ofColumns(c, d), state == api.Public)
			second := of(plain(0, "t"), api.Table{Id: 1, Name: "u", Columns: []api.Column{c, d}})
			wantRight(t, "two columns' States in a second table", second, state == api.Public)
		}
	}
	for _, state := range notStates {
		c := column(2, "b")
		c.State = state
		wantRight(t, "a column's State that is none", ofColumns(column(1, "a"), c), false)
		wantRight(t, "an only column's State that is none", ofColumns(c), false)
	}
}

func TestRightOfColumnNames(t *testing.T) {
	states := []api.State{api.Delete, api.Write, api.Public}
	for _, first := range states {
		for _, second := range states {
			a, b := column(2, "b"), column(3, "b")
			a.State, b.State = first, second
			want := first != api.Public || second != api.Public
			wantRight(t, "two columns with one name", ofColumns(column(1, "a"), a, b), want)
			b.Id = 4
			wantRight(t, "two columns with one name, apart", ofColumns(column(1, "a"), a, column(3, "c"), b), want)
			third := column(5, "b")
			wantRight(t, "a third one, Public", ofColumns(a, b, third), first != api.Public && second != api.Public)
		}
	}
}

func TestRightOfIndexes(t *testing.T) {
	for n := range 2 * api.MaxIndexes {
		wantRight(t, fmt.Sprint(n, " indexes"), ofIndexes(indexes(10, n)...), n <= 8)
		second := of(plain(0, "t"), api.Table{Id: 1, Name: "u", Columns: columns(1, 1), Indexes: indexes(10, n)})
		wantRight(t, fmt.Sprint(n, " indexes of a second table"), second, n <= 8)
	}
	for _, name := range names() {
		wantRight(t, "an index's name", ofIndexes(index(10, name, 1)), true)
	}
	for _, name := range notNames() {
		wantRight(t, "an index without a name", ofIndexes(index(10, name, 1)), false)
		wantRight(t, "a second index without a name", ofIndexes(index(10, "i", 1), index(11, name, 1)), false)
	}
	states := []api.State{api.Delete, api.Write, api.Public}
	for _, first := range states {
		for _, second := range states {
			a, b := index(10, "i", 1), index(11, "j", 2)
			a.State, b.State = first, second
			wantRight(t, "indexes with different names", ofIndexes(a, b), true)
			b.Name = "i"
			wantRight(t, "indexes with equal names", ofIndexes(a, b), false)
			b.Id = 12
			wantRight(t, "indexes with equal names, apart", ofIndexes(a, index(11, "j", 1), b), false)
		}
	}
	for _, state := range notStates {
		x := index(10, "i", 1)
		x.State = state
		wantRight(t, "an index's State that is none", ofIndexes(x), false)
		wantRight(t, "a second index's State that is none", ofIndexes(index(9, "h", 1), x), false)
	}
}

func TestRightOfIndexColumns(t *testing.T) {
	for _, c := range []struct {
		columns []int
		want    bool
	}{
		{nil, false}, {[]int{}, false}, {[]int{1, 2, 3, 4, 5}, false}, {[]int{1, 2, 3, 4, 5, 6}, false}, {[]int{1, 1, 1, 1, 1}, false},
		{[]int{1}, true}, {[]int{6}, true}, {[]int{1, 2}, true}, {[]int{2, 1}, true}, {[]int{1, 2, 3, 4}, true}, {[]int{6, 4, 5, 3}, true},
		{[]int{1, 1}, false}, {[]int{1, 2, 1}, false}, {[]int{2, 1, 1}, false}, {[]int{1, 2, 3, 1}, false}, {[]int{1, 2, 3, 3}, false}, {[]int{4, 4, 4, 4}, false},
		// 0 is the table's Id, 10 the index's, and there are only six columns.
		{[]int{0}, false}, {[]int{7}, false}, {[]int{10}, false}, {[]int{-1}, false}, {[]int{most}, false}, {[]int{least}, false},
		{[]int{0, 1}, false}, {[]int{1, 0}, false}, {[]int{1, 2, 3, 7}, false}, {[]int{1, -1, 2}, false}, {[]int{7, 7}, false},
	} {
		wantRight(t, fmt.Sprint("an index of ", c.columns), ofIndexes(index(10, "i", c.columns...)), c.want)
		wantRight(t, fmt.Sprint("a second index of ", c.columns), ofIndexes(index(9, "h", 1), index(10, "i", c.columns...)), c.want)
	}
	// Two indexes may have the same columns, and columns in any State.
	wantRight(t, "two indexes of the same columns", ofIndexes(index(10, "i", 1, 2), index(11, "j", 1, 2)), true)
	for _, state := range []api.State{api.Delete, api.Write} {
		s := ofIndexes(index(10, "i", 3, 1))
		s.Tables[0].Columns[2].State = state
		wantRight(t, "an index of a column that is not Public", s, true)
	}
	// A column of another table is none of this one.
	other := of(plain(0, "t"), api.Table{Id: 1, Name: "u", Columns: columns(2, 2), Indexes: []api.Index{index(10, "i", 1)}})
	wantRight(t, "an index of another table's column", other, false)
	other.Tables[1].Indexes[0].Columns[0] = 3
	wantRight(t, "an index of its table's column", other, true)
}

// invalid are the changes of full after which it is not valid.
func invalid() []string {
	return []string{
		"a Default's Scale", "a Default behind Null", "the tables' order", "no column", "the columns' order",
		"the indexes' order", "no part", "one column less", // an index has that column
	}
}

func TestRightOfChanges(t *testing.T) {
	for what, change := range changes() {
		wantRight(t, what, changed(change), !slices.Contains(invalid(), what))
	}
}
