package schema

import (
	"slices"

	"refit/api"
	"refit/value"
)

// Name reports whether s is a name: 1 to MaxWord bytes, a lowercase letter and then lowercase letters, digits and underscores.
func Name(s string) bool {
	for i, r := range s {
		if !lowercase(r) && (i == 0 || !digit(r) && r != '_') {
			return false
		}
	}
	return 1 <= len(s) && len(s) <= api.MaxWord
}

// Right reports whether the schema is valid.
func Right(s api.Schema) bool {
	if s.Version < 0 || s.Next < 0 || len(s.Tables) > api.MaxTables {
		return false
	}
	var ids []int
	var names []string
	for _, t := range s.Tables {
		if !rightTable(t, s.Next) {
			return false
		}
		ids = append(ids, t.Id)
		names = append(names, t.Name)
	}
	return ascending(ids, s.Next) && distinct(names)
}

func lowercase(r rune) bool {
	return 'a' <= r && r <= 'z'
}

func digit(r rune) bool {
	return '0' <= r && r <= '9'
}

// rightTable reports whether t is valid on its own, in a schema whose Ids are below next.
func rightTable(t api.Table, next int) bool {
	return Name(t.Name) && rightColumns(t.Columns, next) && rightIndexes(t, next)
}

func rightColumns(columns []api.Column, next int) bool {
	if len(columns) > api.MaxColumns {
		return false
	}
	var ids []int
	var public []string
	for _, c := range columns {
		if !rightColumn(c) {
			return false
		}
		ids = append(ids, c.Id)
		// Columns that are not read yet, or no more, may have the name of the one that is.
		if c.State == api.Public {
			public = append(public, c.Name)
		}
	}
	return len(public) > 0 && ascending(ids, next) && distinct(public)
}

func rightColumn(c api.Column) bool {
	// Not even Null is of a type that is not valid.
	return Name(c.Name) && value.Of(c.Default, c.Type) && present(c.State)
}

func rightIndexes(t api.Table, next int) bool {
	if len(t.Indexes) > api.MaxIndexes {
		return false
	}
	var ids []int
	var names []string
	for _, x := range t.Indexes {
		if !rightIndex(x, t) {
			return false
		}
		ids = append(ids, x.Id)
		names = append(names, x.Name)
	}
	return ascending(ids, next) && distinct(names)
}

// rightIndex reports whether x is valid on its own, as an index of the table t.
func rightIndex(x api.Index, t api.Table) bool {
	return Name(x.Name) && present(x.State) && rightParts(x.Columns, t)
}

// rightParts reports whether an index of the table t may have these columns.
func rightParts(columns []int, t api.Table) bool {
	if len(columns) < 1 || len(columns) > api.MaxParts {
		return false
	}
	for i, id := range columns {
		if ColumnId(t, id) < 0 || slices.Contains(columns[:i], id) {
			return false
		}
	}
	return true
}

// present reports whether a schema may have what is in the State: what is Absent is not in it.
func present(state api.State) bool {
	return api.Delete <= state && state <= api.Public
}

// ascending reports whether the Ids ascend, from 0 to next - 1.
func ascending(ids []int, next int) bool {
	before := -1
	for _, id := range ids {
		if id <= before || id >= next {
			return false
		}
		before = id
	}
	return true
}

// distinct reports whether no two of the names are equal.
func distinct(names []string) bool {
	seen := map[string]struct{}{}
	for _, name := range names {
		seen[name] = struct{}{}
	}
	return len(seen) == len(names)
}
