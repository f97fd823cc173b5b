package row_test

import (
	"math"
	"math/rand"
	"slices"
	"strings"
	"testing"

	"refit/api"
	"refit/row"
	"refit/value"
)

const (
	least = math.MinInt
	most  = math.MaxInt
)

var (
	null      = api.Value{}
	badScales = []int{-1, 7, 8, 256, 257, -256, 1 << 32, 1<<32 + 1, least, most}
	badKinds  = []api.Kind{-1, 6, 7, 255, 256, 257, 258, -254, 1 << 32, 1<<32 + 2, least, most}
)

func integer(n int) api.Value { return api.Value{Kind: api.Int, N: n} }

func dec(n, scale int) api.Value { return api.Value{Kind: api.Dec, N: n, Scale: scale} }

func text(s string) api.Value { return api.Value{Kind: api.Text, S: s} }

func raw(s string) api.Value { return api.Value{Kind: api.Bytes, S: s} }

func cell(column int, v api.Value) api.Cell { return api.Cell{Column: column, Value: v} }

// ints is a list of cells whose values are Ints, ten times their columns.
func ints(columns ...int) []api.Cell {
	var r []api.Cell
	for _, c := range columns {
		r = append(r, cell(c, integer(10*c)))
	}
	return r
}

// wrong are values that are not valid.
func wrong() []api.Value {
	l := []api.Value{
		{N: 1}, {Scale: 1}, {S: "a"}, {N: -1},
		{Kind: api.Bool, N: 2}, {Kind: api.Bool, N: -1}, {Kind: api.Bool, N: 256}, {Kind: api.Bool, N: least},
		{Kind: api.Bool, Scale: 1}, {Kind: api.Bool, N: 1, S: "a"},
		{Kind: api.Int, N: 5, Scale: 1}, {Kind: api.Int, N: 5, S: "5"},
		{Kind: api.Dec, N: 5, Scale: 1, S: "a"},
		{Kind: api.Text, N: 1, S: "a"}, {Kind: api.Text, Scale: 1, S: "a"},
		{Kind: api.Bytes, N: 1, S: "a"}, {Kind: api.Bytes, Scale: 1, S: "a"},
		text("\xff"), text("a\x80"), text("\xc3"), text("\xed\xa0\x80"),
		text(strings.Repeat("a", api.MaxText+1)), raw(strings.Repeat("a", api.MaxText+1)),
	}
	for _, scale := range badScales {
		l = append(l, dec(5, scale))
	}
	for _, kind := range badKinds {
		l = append(l, api.Value{Kind: kind}, api.Value{Kind: kind, N: 1})
	}
	return l
}

// encodings are values that a cell may have, with their encodings written out.
func encodings() []struct {
	v       api.Value
	encoded string
} {
	return []struct {
		v       api.Value
		encoded string
	}{
		{value.Bool(false), "\x01\x01\x00"},
		{value.Bool(true), "\x01\x01\x01\x01"},
		{integer(0), "\x01\x02\x00"},
		{integer(1), "\x01\x02\x01\x01"},
		{integer(-1), "\x01\x02\x80"},
		{integer(300), "\x01\x02\x02\x01\x2c"}, // DOC.md's
		{integer(most), "\x01\x02\x08\x7f\xff\xff\xff\xff\xff\xff\xff"},
		{integer(least), "\x01\x02\x88\x7f\xff\xff\xff\xff\xff\xff\xff"},
		{dec(0, 0), "\x01\x03\x00\x00"},
		{dec(5, 0), "\x01\x03\x00\x01\x05"},
		{dec(0, 1), "\x01\x03\x01\x01\x00"},
		{dec(1, 2), "\x01\x03\x01\x02\x01\x01"},
		{dec(-150, 2), "\x01\x03\x01\x02\x81\x95"},
		{dec(-1, 6), "\x01\x03\x01\x06\x80"},
		{dec(most, 6), "\x01\x03\x01\x06\x08\x7f\xff\xff\xff\xff\xff\xff\xff"},
		{dec(least, 6), "\x01\x03\x01\x06\x88\x7f\xff\xff\xff\xff\xff\xff\xff"},
		{text(""), "\x01\x04\x00"},
		{text("a"), "\x01\x04\x01\x01a"}, // the chapter's
		{text("\x00é\n"), "\x01\x04\x01\x04\x00\xc3\xa9\n"},
		{text(strings.Repeat("a", api.MaxText)), "\x01\x04\x01\xc8" + strings.Repeat("a", 200)},
		{raw(""), "\x01\x05\x00"},
		{raw("\x00\xff"), "\x01\x05\x01\x02\x00\xff"},
		{raw(strings.Repeat("\xff", api.MaxText)), "\x01\x05\x01\xc8" + strings.Repeat("\xff", 200)},
	}
}

// values are values that a cell may have.
func values() []api.Value {
	var l []api.Value
	for _, c := range encodings() {
		l = append(l, c.v)
	}
	return l
}

// rows are some rows of each kind.
func rows() [][]api.Cell {
	l := [][]api.Cell{nil, {}, ints(0), ints(1), ints(most/10 - 1), ints(0, 1), ints(0, 1, 2), ints(3, 7, 300)}
	l = append(l, []api.Cell{cell(most, text("a"))}, []api.Cell{cell(0, raw("")), cell(most, value.Bool(false))})
	for _, v := range values() {
		l = append(l, []api.Cell{cell(4, v)}, []api.Cell{cell(0, text("x")), cell(1, v), cell(5, integer(-1))})
	}
	var many []api.Cell
	for i := range 1000 {
		many = append(many, cell(3*i, values()[i%len(values())]))
	}
	return append(l, many)
}

// notRows are lists of cells that are no rows.
func notRows() [][]api.Cell {
	l := [][]api.Cell{
		ints(-1), ints(least / 10), ints(-1, 0), ints(-2, -1), ints(0, -1), ints(5, -1),
		ints(0, 0), ints(1, 1), ints(1, 0), ints(0, 1, 1), ints(0, 0, 1), ints(0, 2, 1), ints(2, 0, 1), ints(1, 2, 0),
		{cell(least, text("a"))},
		{cell(most, text("a")), cell(most, text("b"))},
		{cell(most, text("a")), cell(least, text("b"))},
		{cell(0, null)}, {cell(5, null)}, {cell(0, integer(1)), cell(1, null)}, {cell(0, null), cell(1, integer(1))},
	}
	for _, v := range wrong() {
		l = append(l, []api.Cell{cell(0, v)})
		l = append(l, []api.Cell{cell(0, v), cell(1, integer(1))})
		l = append(l, []api.Cell{cell(0, integer(1)), cell(1, text("a")), cell(2, v)})
	}
	return l
}

// spare returns r with spare capacity behind it, which no call may change or hand out.
func spare(r []api.Cell) []api.Cell {
	whole := append(slices.Clone(r), ints(77, 78, 79)...)
	return whole[:len(r)]
}

// whole is r with its spare capacity.
func whole(r []api.Cell) []api.Cell { return r[:cap(r)] }

// wantApart writes over all of the result, and wants r as it was, behind its end too.
func wantApart(t *testing.T, what string, r, before, result []api.Cell) {
	t.Helper()
	if !slices.Equal(whole(r), before) {
		t.Errorf("%s changed its argument to %v", what, whole(r))
	}
	for i := range whole(result) {
		whole(result)[i] = cell(-7, null)
	}
	if !slices.Equal(whole(r), before) {
		t.Errorf("the result of %s shares memory with its argument", what)
	}
}

// P11.1: Right

func TestRight(t *testing.T) {
	for _, r := range rows() {
		if !row.Right(r) {
			t.Errorf("Right(%v) is false", r)
		}
	}
	for _, r := range notRows() {
		if row.Right(r) {
			t.Errorf("Right(%v) is true", r)
		}
	}
}

// P11.1: Get

func TestGet(t *testing.T) {
	for _, r := range rows() {
		for _, c := range r {
			if v := row.Get(r, c.Column); v != c.Value {
				t.Errorf("Get(%d) is %v, want %v", c.Column, v, c.Value)
			}
		}
	}
	r := ints(1, 3)
	for _, column := range []int{-1, 0, 2, 4, 10, 30, least, most} {
		if v := row.Get(r, column); v != null {
			t.Errorf("Get(%d) of %v is %v", column, r, v)
		}
		if v := row.Get(nil, column); v != null {
			t.Errorf("Get(%d) of nil is %v", column, v)
		}
		if v := row.Get([]api.Cell{}, column); v != null {
			t.Errorf("Get(%d) of no cells is %v", column, v)
		}
	}
}

func TestGetOfNoRow(t *testing.T) {
	twice := []api.Cell{cell(4, integer(1)), cell(2, text("first")), cell(2, text("second")), cell(-1, integer(9))}
	for _, c := range []struct {
		column int
		v      api.Value
	}{{2, text("first")}, {4, integer(1)}, {-1, integer(9)}, {-2, null}, {3, null}} {
		if v := row.Get(twice, c.column); v != c.v {
			t.Errorf("Get(%d) is %v, want %v", c.column, v, c.v)
		}
	}
	// A first cell with Null hides a second one.
	hidden := []api.Cell{cell(2, null), cell(2, text("second"))}
	if v := row.Get(hidden, 2); v != null {
		t.Errorf("Get behind a Null is %v", v)
	}
	for _, v := range wrong() {
		if got := row.Get([]api.Cell{cell(0, integer(3)), cell(2, v), cell(2, integer(4))}, 2); got != v {
			t.Errorf("Get of %v is %v", v, got)
		}
	}
}

// P11.1: Set

// wantSet wants that r with v in the column is the row want.
func wantSet(t *testing.T, r []api.Cell, column int, v api.Value, want []api.Cell) {
	t.Helper()
	r = spare(r)
	before := slices.Clone(whole(r))
	got := row.Set(r, column, v)
	if !slices.Equal(got, want) {
		t.Errorf("Set(%v, %d, %v) is %v, want %v", r, column, v, got, want)
	}
	wantApart(t, "Set", r, before, got)
}

func TestSetOfAnotherColumn(t *testing.T) {
	for _, v := range values() {
		wantSet(t, nil, 0, v, []api.Cell{cell(0, v)})
		wantSet(t, []api.Cell{}, most, v, []api.Cell{cell(most, v)})
		wantSet(t, ints(2, 4), 0, v, []api.Cell{cell(0, v), ints(2)[0], ints(4)[0]})
		wantSet(t, ints(2, 4), 1, v, []api.Cell{cell(1, v), ints(2)[0], ints(4)[0]})
		wantSet(t, ints(2, 4), 3, v, []api.Cell{ints(2)[0], cell(3, v), ints(4)[0]})
		wantSet(t, ints(2, 4), 5, v, []api.Cell{ints(2)[0], ints(4)[0], cell(5, v)})
		wantSet(t, ints(2, 4), most, v, []api.Cell{ints(2)[0], ints(4)[0], cell(most, v)})
	}
}

func TestSetOfAColumnThatIsThere(t *testing.T) {
	for _, v := range values() {
		wantSet(t, ints(0), 0, v, []api.Cell{cell(0, v)})
		wantSet(t, ints(0, 2, 4), 0, v, []api.Cell{cell(0, v), ints(2)[0], ints(4)[0]})
		wantSet(t, ints(0, 2, 4), 2, v, []api.Cell{ints(0)[0], cell(2, v), ints(4)[0]})
		wantSet(t, ints(0, 2, 4), 4, v, []api.Cell{ints(0)[0], ints(2)[0], cell(4, v)})
	}
	wantSet(t, ints(0, 2), 2, integer(20), ints(0, 2))
	wantSet(t, []api.Cell{cell(most, text("a"))}, most, text("b"), []api.Cell{cell(most, text("b"))})
}

func TestSetOfNothing(t *testing.T) {
	for _, v := range append(wrong(), null) {
		wantSet(t, nil, 0, v, nil)
		wantSet(t, ints(3), 3, v, nil)
		wantSet(t, ints(0, 2, 4), 0, v, ints(2, 4))
		wantSet(t, ints(0, 2, 4), 2, v, ints(0, 4))
		wantSet(t, ints(0, 2, 4), 4, v, ints(0, 2))
		for _, column := range []int{1, 3, 5, most} {
			wantSet(t, ints(0, 2, 4), column, v, ints(0, 2, 4))
		}
	}
}

func TestSetOfANegativeColumn(t *testing.T) {
	for _, column := range []int{-1, -2, -10, least} {
		for _, v := range append(wrong(), null, integer(1), text("a")) {
			wantSet(t, nil, column, v, nil)
			wantSet(t, ints(0), column, v, ints(0))
			wantSet(t, ints(1, 2, 4), column, v, ints(1, 2, 4))
		}
	}
}

// randomValue is a value of any Kind, at times one that is not valid.
func randomValue(random *rand.Rand) api.Value {
	switch random.Intn(5) {
	case 0:
		return null
	case 1:
		return wrong()[random.Intn(len(wrong()))]
	}
	return values()[random.Intn(len(values()))]
}

func TestRandomSets(t *testing.T) {
	random := rand.New(rand.NewSource(11))
	for range 50 {
		model := map[int]api.Value{}
		var r []api.Cell
		for range 60 {
			column, v := random.Intn(14)-2, randomValue(random)
			r = row.Set(r, column, v)
			if column >= 0 {
				model[column] = null
				if value.Right(v) {
					model[column] = v
				}
			}
			wantModel(t, r, model)
		}
	}
}

// wantModel wants a row with the values of the model that are not Null.
func wantModel(t *testing.T, r []api.Cell, model map[int]api.Value) {
	t.Helper()
	cells := 0
	for column, v := range model {
		if got := row.Get(r, column); got != v {
			t.Fatalf("column %d of %v is %v, want %v", column, r, got, v)
		}
		if v != null {
			cells++
		}
	}
	if len(r) != cells || !row.Right(r) {
		t.Fatalf("%v with %d cells, want %d of a row", r, len(r), cells)
	}
	b, err := row.Put(r)
	parsed, ok := row.Parse(b)
	if err != api.OK || !ok || !row.Same(parsed, r) {
		t.Fatalf("Put and Parse of %v are %x, %v, %v, %v", r, b, err, parsed, ok)
	}
}

// P11.1: Keep

// wantKeep wants that the cells of r's columns are want, and that the list of columns stays as it is.
func wantKeep(t *testing.T, r []api.Cell, columns []int, want []api.Cell) {
	t.Helper()
	r = spare(r)
	before, asked := slices.Clone(whole(r)), slices.Clone(columns)
	got := row.Keep(r, columns...)
	if !slices.Equal(got, want) {
		t.Errorf("Keep(%v, %v) is %v, want %v", r, columns, got, want)
	}
	if !slices.Equal(columns, asked) {
		t.Errorf("Keep changed the columns %v to %v", asked, columns)
	}
	wantApart(t, "Keep", r, before, got)
}

func TestKeep(t *testing.T) {
	for _, r := range [][]api.Cell{nil, {}, ints(0), ints(0, 2, 5)} {
		wantKeep(t, r, nil, nil)
		wantKeep(t, r, []int{}, nil)
		wantKeep(t, r, []int{-1, 1, 3, 4, 6, 20, 50, least, most}, nil)
	}
	all := ints(0, 2, 5, 7)
	wantKeep(t, nil, []int{0}, nil)
	wantKeep(t, all, []int{0}, ints(0))
	wantKeep(t, all, []int{5}, ints(5))
	wantKeep(t, all, []int{7}, ints(7))
	wantKeep(t, all, []int{2, 5}, ints(2, 5))
	wantKeep(t, all, []int{0, 2, 5, 7}, all)
	wantKeep(t, all, []int{7, 5, 2, 0}, all)
	wantKeep(t, all, []int{7, 0, 5}, ints(0, 5, 7))
	wantKeep(t, all, []int{2, 2, 2}, ints(2))
	wantKeep(t, all, []int{5, 0, 5, 0}, ints(0, 5))
	wantKeep(t, all, []int{9, 2, -1, 3, most}, ints(2))
	wantKeep(t, []api.Cell{cell(most, text("a"))}, []int{most}, []api.Cell{cell(most, text("a"))})
}

func TestKeepOfNoRow(t *testing.T) {
	odd := []api.Cell{cell(4, integer(1)), cell(2, text("a")), cell(2, null), cell(-1, dec(1, 9))}
	wantKeep(t, odd, []int{2}, []api.Cell{cell(2, text("a")), cell(2, null)})
	wantKeep(t, odd, []int{-1, 4}, []api.Cell{cell(4, integer(1)), cell(-1, dec(1, 9))})
}

// P11.1: Same

func TestSame(t *testing.T) {
	l := append(rows(), notRows()...)
	for i, a := range l {
		for j, b := range l {
			if want := slices.Equal(a, b); row.Same(slices.Clone(a), b) != want {
				t.Errorf("Same of list %d and %d is %v: %v and %v", i, j, !want, a, b)
			}
		}
	}
	if !row.Same(nil, []api.Cell{}) || !row.Same([]api.Cell{}, nil) || !row.Same(nil, nil) {
		t.Errorf("nil and empty are not the same")
	}
	for i, r := range [][]api.Cell{ints(0), ints(0, 1), ints(1, 2), ints(1), nil} {
		if row.Same(r, ints(0, 1, 2)) || row.Same(ints(0, 1, 2), r) {
			t.Errorf("list %d is the same as one of another length", i)
		}
	}
	if row.Same(ints(0, 1), ints(1, 0)) {
		t.Errorf("the order of cells does not matter")
	}
}

func TestSameOfOneDifference(t *testing.T) {
	r := []api.Cell{cell(1, integer(1)), cell(3, api.Value{Kind: api.Text, N: 5, Scale: 2, S: "a"}), cell(5, null)}
	for i := range r {
		for what, change := range map[string]func(c *api.Cell){
			"column": func(c *api.Cell) { c.Column++ },
			"Kind":   func(c *api.Cell) { c.Value.Kind++ },
			"N":      func(c *api.Cell) { c.Value.N++ },
			"Scale":  func(c *api.Cell) { c.Value.Scale++ },
			"S":      func(c *api.Cell) { c.Value.S += "a" },
		} {
			other := slices.Clone(r)
			if !row.Same(r, other) || !row.Same(other, r) {
				t.Errorf("equal lists are not the same")
			}
			change(&other[i])
			if row.Same(r, other) || row.Same(other, r) {
				t.Errorf("cells %d that differ in their %s are the same", i, what)
			}
		}
	}
	// 1.0 and 1.00 are equal numbers, but other values; a value that is not valid is not Null here.
	if row.Same([]api.Cell{cell(0, dec(10, 1))}, []api.Cell{cell(0, dec(100, 2))}) {
		t.Errorf("decimals of two scales are the same")
	}
	if row.Same([]api.Cell{cell(0, null)}, []api.Cell{cell(0, dec(0, 9))}) {
		t.Errorf("a value that is not valid is the same as Null")
	}
}

// Rule 5: arguments stay as they are

func TestArgumentsAreKept(t *testing.T) {
	for _, r := range append(rows(), notRows()...) {
		r = spare(r)
		before := slices.Clone(whole(r))
		row.Right(r)
		row.Get(r, 1)
		row.Same(r, r)
		row.Put(r)
		if !slices.Equal(whole(r), before) {
			t.Errorf("%v became %v", before, whole(r))
		}
	}
}
