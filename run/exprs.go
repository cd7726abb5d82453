package run

import (
	"iter"

	"satchel/api"
	"satchel/syntax"
	"satchel/value"
)

// exprs goes through the values of exprs, from the left, as the cells of a row.
func exprs(list []syntax.Expr, in *around) iter.Seq2[int, api.Value] {
	return func(yield func(int, api.Value) bool) {
		for i, e := range list {
			if !yield(i, expr(e, in)) {
				return
			}
		}
	}
}

// row makes new memory of cells.
func row(cells iter.Seq2[int, api.Value]) value.Row {
	var made value.Row
	for _, cell := range cells {
		made = append(made, cell)
	}
	return made
}

func expr(e syntax.Expr, in *around) api.Value {
	switch e := e.(type) {
	case *syntax.Constant:
		return e.Value
	case *syntax.Column:
		return in.cell(e)
	case *syntax.Operation:
		return value.Of(e.Word, row(exprs(e.Operands, in))...)
	case *syntax.Case:
		return choice(e, in)
	case *syntax.Within:
		return within(e, in)
	}
	return value.Null()
}

func choice(c *syntax.Case, in *around) api.Value {
	for _, arm := range c.Arms {
		if holds(&arm.When, in) {
			return expr(arm.Then.Expr, in)
		}
	}
	if c.Else != nil {
		return expr(c.Else.Expr, in)
	}
	return value.Null()
}

// holds tells whether a when is true, or a where, if there is one.
func holds(clause *syntax.Clause, in *around) bool {
	return clause == nil || value.IsTrue(expr(clause.Expr, in))
}
