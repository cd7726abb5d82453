package run

import (
	"iter"

	"satchel/api"
	"satchel/syntax"
	"satchel/table"
	"satchel/value"
)

// query is the rows of a query, in order, in new memory.
func query(q syntax.Query, in *around) []value.Row {
	switch q := q.(type) {
	case *syntax.Select:
		return selected(q, in)
	case *syntax.Combined:
		return combined(q, in)
	}
	return nil
}

// combined has each row once on both sides, without all: what counts how often a
// row is there then tells whether it is.
func combined(q *syntax.Combined, in *around) []value.Row {
	first, second := query(q.First, in), query(q.Second, in)
	if !q.All {
		first, second = value.Once(first), value.Once(second)
	}
	also, rest := value.Matched(first, second)
	switch {
	case q.Word == "intersect":
		return also
	case q.Word == "except":
		return rest
	case q.All:
		return value.Sorted(first, second)
	}
	return value.Sorted(rest, second)
}

func selected(s *syntax.Select, outer *around) []value.Row {
	var rows []value.Row
	for taken := range together(outer.tables, s.From) {
		in := outer.with(taken)
		if holds(s.Where, in) {
			rows = append(rows, row(cells(s, in)))
		}
	}
	rows = value.Sorted(rows)
	if s.Distinct {
		rows = value.Once(rows)
	}
	return rows
}

// together goes through all ways to take one row of each table behind a from.
func together(tables table.List, from []syntax.Source) iter.Seq[[]value.Row] {
	var all [][]value.Row
	for _, source := range from {
		t, _ := tables.Find(source.Table.Word)
		all = append(all, t.Rows)
	}
	return value.Together(all...)
}

// cells goes through what a select says of the rows that are taken.
func cells(s *syntax.Select, in *around) iter.Seq2[int, api.Value] {
	if s.Exprs == nil {
		return value.Cells(in.taken...)
	}
	return exprs(s.Exprs, in)
}

// width is how many columns a query has; of two that are combined both have as many.
func width(tables table.List, q syntax.Query) int {
	switch q := q.(type) {
	case *syntax.Select:
		return selectWidth(tables, q)
	case *syntax.Combined:
		return width(tables, q.First)
	}
	return 0
}

func selectWidth(tables table.List, s *syntax.Select) int {
	if s.Exprs != nil {
		return len(s.Exprs)
	}
	count := 0
	for _, source := range s.From {
		t, _ := tables.Find(source.Table.Word)
		count += len(t.Columns)
	}
	return count
}
