package run

import (
	"satchel/api"
	"satchel/syntax"
	"satchel/table"
	"satchel/value"
)

// around is what is around an expr: all tables that there are, the rows that are
// taken of those of the innermost select, and what is around that.
type around struct {
	tables table.List
	taken  []value.Row
	outer  *around
}

// nothing is what is around a statement.
func nothing(tables table.List) *around { return &around{tables: tables} }

// with is what is around where these rows are taken, too.
func (a *around) with(taken []value.Row) *around {
	return &around{a.tables, taken, a}
}

func (a *around) cell(c *syntax.Column) api.Value {
	for range c.Out {
		a = a.outer
	}
	return a.taken[c.Source][c.Cell]
}
