package schema

import (
	"bytes"

	"refit/api"
	"refit/row"
	"refit/wire"
)

// Put returns the encoding of the schema s, or ErrArg if s is not valid.
func Put(s api.Schema) ([]byte, api.Errno) {
	if !Right(s) {
		return nil, api.ErrArg
	}
	var w writer
	w.schema(s)
	return w.Bytes(), api.OK
}

// Parse returns the valid schema whose encoding is b, and whether there is one.
func Parse(b []byte) (api.Schema, bool) {
	r := reader{wire.Read(b)}
	s := r.schema()
	// A valid schema has one encoding alone, so whatever the reader let pass shows here.
	again, err := Put(s)
	if err != api.OK || !bytes.Equal(again, b) {
		return api.Schema{}, false
	}
	return s, true
}

// writer writes the parts of a schema.
type writer struct {
	wire.Writer
}

func (w *writer) schema(s api.Schema) {
	w.Number(s.Version)
	w.Number(s.Next)
	writeList(w, s.Tables, w.table)
}

func (w *writer) table(t api.Table) {
	w.Number(t.Id)
	w.Text(t.Name)
	writeList(w, t.Columns, w.column)
	writeList(w, t.Indexes, w.index)
}

func (w *writer) column(c api.Column) {
	w.Number(c.Id)
	w.Text(c.Name)
	w.Number(int(c.Type.Kind))
	w.Number(c.Type.Scale)
	w.Flag(c.NotNull)
	w.value(c.Default)
	w.Number(int(c.State))
}

// value writes v as column 0 of a row.
func (w *writer) value(v api.Value) {
	// There is no error, since Set makes a row.
	b, _ := row.Put(row.Set(nil, 0, v))
	w.Text(string(b))
}

func (w *writer) index(x api.Index) {
	w.Number(x.Id)
	w.Text(x.Name)
	writeList(w, x.Columns, w.Number)
	w.Flag(x.Unique)
	w.Number(int(x.State))
}

// writeList writes a list, each part of it by the function one.
func writeList[T any](w *writer, l []T, one func(T)) {
	w.Number(len(l))
	for _, part := range l {
		one(part)
	}
}

// reader reads the parts of a schema, in the order in which a writer writes them. What it returns for bytes that are no encoding is of no use.
type reader struct {
	*wire.Reader
}

func (r reader) schema() (s api.Schema) {
	s.Version = r.Number()
	s.Next = r.Number()
	s.Tables = readList(r, api.MaxTables, r.table)
	return s
}

func (r reader) table() (t api.Table) {
	t.Id = r.Number()
	t.Name = r.Text()
	t.Columns = readList(r, api.MaxColumns, r.column)
	t.Indexes = readList(r, api.MaxIndexes, r.index)
	return t
}

func (r reader) column() (c api.Column) {
	c.Id = r.Number()
	c.Name = r.Text()
	c.Type.Kind = api.Kind(r.Number())
	c.Type.Scale = r.Number()
	c.NotNull = r.Flag()
	c.Default = r.value()
	c.State = api.State(r.Number())
	return c
}

// value reads a row and returns its column 0, which is Null too if it is no row.
func (r reader) value() api.Value {
	cells, _ := row.Parse([]byte(r.Text()))
	return row.Get(cells, 0)
}

func (r reader) index() (x api.Index) {
	x.Id = r.Number()
	x.Name = r.Text()
	x.Columns = readList(r, api.MaxParts, r.Number)
	x.Unique = r.Flag()
	x.State = api.State(r.Number())
	return x
}

// readList reads a list of up to most parts, each of them by the function one.
func readList[T any](r reader, most int, one func() T) []T {
	var l []T
	for range r.Count(most) {
		l = append(l, one())
	}
	return l
}
