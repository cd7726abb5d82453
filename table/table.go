// Package table has tables and lists of them. Neither is changed once it is
// made, nor are the rows: a change makes new ones, so that what was can be kept
// by keeping it.
package table

import (
	"slices"

	"satchel/value"
)

type Table struct {
	Name    string
	Columns []Column
	Rows    []value.Row
}

type Column struct {
	Name string
	Type int // api.Bool, api.Int or api.Text
}

// Cell is the number of the column of that name, or -1.
func (t Table) Cell(name string) int {
	return slices.IndexFunc(t.Columns, func(c Column) bool { return c.Name == name })
}

// Having is the table with these rows, of several lists, in the stead of its own.
func (t Table) Having(rows ...[]value.Row) Table {
	t.Rows = slices.Concat(rows...)
	return t
}

// List has tables of different names.
type List []Table

// Find gives the table of that name, if there is one.
func (l List) Find(name string) (Table, bool) {
	for _, t := range l {
		if t.Name == name {
			return t, true
		}
	}
	return Table{}, false
}

// With is the list with t in it, in the stead of the one of its name, if there is one.
func (l List) With(t Table) List {
	return append(l.Without(t.Name), t)
}

// Without is the list without the table of that name.
func (l List) Without(name string) List {
	return slices.DeleteFunc(slices.Clone(l), func(t Table) bool { return t.Name == name })
}
