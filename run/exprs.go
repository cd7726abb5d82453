package run

import (
	"iter"

	"satchel/api"
	"satchel/syntax"
	"satchel/value"
)

// exprs goes through the values of exprs, from the left, as the cells of a row.
func exprs(list []syntax.Expr, taken []value.Row) iter.Seq2[int, api.Value] {
	return func(yield func(int, api.Value) bool) {
		for i, e := range list {
			if !yield(i, expr(e, taken)) {
				return
			}
		}
	}
}

// row makes new memory of cells.
func row(cells iter.Seq2[int, api.Value]) value.Row {
	var made value.Row
	for _, cell := range cells {
		made = append(made, cell)
	}
	return made
}

// expr is the value of an expr, where these rows of the tables around are taken.
func expr(e syntax.Expr, taken []value.Row) api.Value {
	switch e := e.(type) {
	case *syntax.Constant:
		return e.Value
	case *syntax.Column:
		return taken[e.Source][e.Cell]
	case *syntax.Operation:
		return value.Of(e.Word, row(exprs(e.Operands, taken))...)
	case *syntax.Case:
		return choice(e, taken)
	}
	return value.Null()
}

func choice(c *syntax.Case, taken []value.Row) api.Value {
	for _, arm := range c.Arms {
		if holds(&arm.When, taken) {
			return expr(arm.Then.Expr, taken)
		}
	}
	if c.Else != nil {
		return expr(c.Else.Expr, taken)
	}
	return value.Null()
}

// holds tells whether a when is true of the rows that are taken, or a where, if there is one.
func holds(clause *syntax.Clause, taken []value.Row) bool {
	return clause == nil || value.IsTrue(expr(clause.Expr, taken))
}
