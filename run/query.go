package run

import (
	"iter"

	"satchel/api"
	"satchel/syntax"
	"satchel/table"
	"satchel/value"
)

// query is the rows of a select, in order.
func query(tables table.List, s *syntax.Select) []value.Row {
	var rows []value.Row
	for taken := range together(tables, s.From) {
		if holds(s.Where, taken) {
			rows = append(rows, row(cells(s, taken)))
		}
	}
	value.Sort(rows)
	if s.Distinct {
		rows = value.Once(rows)
	}
	return rows
}

// together goes through all ways to take one row of each table behind a from.
func together(tables table.List, from []syntax.Source) iter.Seq[[]value.Row] {
	var all [][]value.Row
	for _, source := range from {
		t, _ := tables.Find(source.Table.Word)
		all = append(all, t.Rows)
	}
	return value.Together(all...)
}

// cells goes through what a select says of the rows that are taken.
func cells(s *syntax.Select, taken []value.Row) iter.Seq2[int, api.Value] {
	if s.Exprs == nil {
		return value.Cells(taken...)
	}
	return exprs(s.Exprs, taken)
}

func width(tables table.List, s *syntax.Select) int {
	if s.Exprs != nil {
		return len(s.Exprs)
	}
	count := 0
	for _, source := range s.From {
		t, _ := tables.Find(source.Table.Word)
		count += len(t.Columns)
	}
	return count
}
