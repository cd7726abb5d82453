// Package run does what a statement says in which nothing is wrong (P9, P10).
package run

import (
	"strings"

	"satchel/api"
	"satchel/syntax"
	"satchel/table"
	"satchel/value"
)

// Statement answers a statement about these tables, and gives the tables as
// they are behind it.
func Statement(tables table.List, s syntax.Statement) (table.List, api.Result) {
	switch s := s.(type) {
	case *syntax.Create:
		return tables.With(newTable(s)), api.Result{}
	case *syntax.Drop:
		return tables.Without(s.Table.Word), api.Result{}
	case *syntax.Insert:
		return insert(tables, s)
	case *syntax.Delete:
		return remove(tables, s)
	case *syntax.Update:
		return update(tables, s)
	case syntax.Query:
		return tables, api.Result{Width: width(tables, s), Rows: query(s, nothing(tables))}
	}
	return tables, api.Result{}
}

// newTable copies the names: they are kept for longer than the statement lives.
func newTable(s *syntax.Create) table.Table {
	made := table.Table{Name: strings.Clone(s.Table.Word)}
	for _, column := range s.Columns {
		made.Columns = append(made.Columns, table.Column{Name: strings.Clone(column.Name.Word), Type: column.Type})
	}
	return made
}

func insert(tables table.List, s *syntax.Insert) (table.List, api.Result) {
	t, _ := tables.Find(s.Table.Word)
	added := newRows(tables, s)
	if len(t.Rows)+len(added) > api.MaxRows {
		return tables, api.Result{Err: api.ErrMuch}
	}
	return tables.With(t.Having(t.Rows, added)), api.Result{Count: len(added)}
}

func newRows(tables table.List, s *syntax.Insert) []value.Row {
	if s.Query != nil {
		return query(s.Query, nothing(tables))
	}
	var rows []value.Row
	for _, r := range s.Rows {
		rows = append(rows, row(exprs(r.Exprs, nothing(tables))))
	}
	return rows
}

func remove(tables table.List, s *syntax.Delete) (table.List, api.Result) {
	t, _ := tables.Find(s.Table.Word)
	var kept []value.Row
	for taken := range value.Together(t.Rows) {
		if !holds(s.Where, nothing(tables).with(taken)) {
			kept = append(kept, taken[0])
		}
	}
	return tables.With(t.Having(kept)), api.Result{Count: len(t.Rows) - len(kept)}
}

func update(tables table.List, s *syntax.Update) (table.List, api.Result) {
	t, _ := tables.Find(s.Table.Word)
	var rows []value.Row
	count := 0
	for taken := range value.Together(t.Rows) {
		in := nothing(tables).with(taken)
		if !holds(s.Where, in) {
			rows = append(rows, taken[0])
			continue
		}
		rows = append(rows, changed(t, s.Sets, in))
		count++
	}
	return tables.With(t.Having(rows)), api.Result{Count: count}
}

// changed is a new row: that which is taken, with what the sets say.
func changed(t table.Table, sets []syntax.Set, in *around) value.Row {
	made := row(value.Cells(in.taken...))
	for _, set := range sets {
		made[t.Cell(set.Column.Word)] = expr(set.Expr, in)
	}
	return made
}
