package check

import (
	"slices"

	"satchel/api"
	"satchel/syntax"
)

// expectFit is the first type that is one; ErrType stands at that place if they
// do not fit.
func (c *checker) expectFit(at int, types ...int) int {
	first, ok := fit(types...)
	if !ok {
		c.fail(api.ErrType, at)
	}
	return first
}

func (c *checker) exprs(list []syntax.Expr, in *scope) []int {
	var types []int
	for _, e := range list {
		types = append(types, c.expr(e, in))
	}
	return types
}

// expr is the type of an expr.
func (c *checker) expr(e syntax.Expr, in *scope) int {
	switch e := e.(type) {
	case *syntax.Constant:
		return e.Value.Kind
	case *syntax.Column:
		return c.column(e, in)
	case *syntax.Operation:
		return c.operation(e, in)
	case *syntax.Case:
		return c.choice(e, in)
	case *syntax.Within:
		return c.within(e, in)
	}
	return none
}

func (c *checker) operation(o *syntax.Operation, in *scope) int {
	made, ok := typeOf(o.Word, c.exprs(o.Operands, in)...)
	if !ok {
		c.fail(api.ErrType, o.At)
	}
	return made
}

func (c *checker) choice(s *syntax.Case, in *scope) int {
	made := none
	for _, arm := range s.Arms {
		c.condition(&arm.When, in)
		made = c.expectFit(arm.Then.At, made, c.expr(arm.Then.Expr, in))
	}
	if s.Else != nil {
		made = c.expectFit(s.Else.At, made, c.expr(s.Else.Expr, in))
	}
	return made
}

func (c *checker) within(w *syntax.Within, in *scope) int {
	operands := c.exprs(w.Operands, in)
	columns := c.query(w.Query, in)
	if w.Word == "exists" {
		return api.Bool
	}
	if len(columns) != 1 {
		c.fail(api.ErrWidth, w.At)
		return none
	}
	made := c.expectFit(w.At, slices.Concat(operands, columns)...)
	if w.Word == "in" {
		return api.Bool
	}
	return made
}

// condition holds the expr of a where, if there is one, or of a when against bool.
func (c *checker) condition(clause *syntax.Clause, in *scope) {
	if clause != nil {
		c.expectFit(clause.At, api.Bool, c.expr(clause.Expr, in))
	}
}
