// Package check finds what is wrong in a statement ahead of doing it (P5, P7),
// and what the names in its exprs mean.
package check

import (
	"slices"

	"satchel/api"
	"satchel/syntax"
	"satchel/table"
)

// Statement tells what is wrong first in a statement about these tables, and
// where: OK 0, if nothing is. It does not know how many rows an insert brings.
func Statement(tables table.List, s syntax.Statement) (api.Errno, int) {
	c := checker{tables: tables}
	c.statement(s)
	if c.errno == api.OK && c.much {
		return api.ErrMuch, 0
	}
	return c.errno, c.at
}

// checker goes through a statement in the order of P5. It goes on behind the
// first thing that is wrong, but keeps that one only.
type checker struct {
	tables table.List
	errno  api.Errno
	at     int
	much   bool // counts only where nothing else is wrong
}

func (c *checker) fail(errno api.Errno, at int) {
	if c.errno == api.OK {
		c.errno, c.at = errno, at
	}
}

func (c *checker) statement(s syntax.Statement) {
	switch s := s.(type) {
	case *syntax.Create:
		c.create(s)
	case *syntax.Drop:
		c.table(s.Table)
	case *syntax.Insert:
		c.insert(s)
	case *syntax.Delete:
		c.condition(s.Where, itself(c.table(s.Table)))
	case *syntax.Update:
		c.update(s)
	case syntax.Query:
		c.query(s, nil)
	}
}

// table is without columns where there is none of that name.
func (c *checker) table(name syntax.Name) table.Table {
	t, ok := c.tables.Find(name.Word)
	if !ok {
		c.fail(api.ErrName, name.At)
	}
	return t
}

func (c *checker) create(s *syntax.Create) {
	if _, ok := c.tables.Find(s.Table.Word); ok {
		c.fail(api.ErrName, s.Table.At)
	}
	var made table.Table
	for _, column := range s.Columns {
		if made.Cell(column.Name.Word) >= 0 {
			c.fail(api.ErrName, column.Name.At)
		}
		made.Columns = append(made.Columns, table.Column{Name: column.Name.Word, Type: column.Type})
	}
	c.much = len(c.tables) >= api.MaxTables
}

func (c *checker) insert(s *syntax.Insert) {
	t := c.table(s.Table)
	for _, row := range s.Rows {
		c.fill(t, row.At, c.exprs(row.Exprs, nil)...)
	}
	if s.Query != nil {
		c.fill(t, s.Into, c.query(s.Query, nil)...)
	}
}

// fill holds what would be a table's new row against its columns.
func (c *checker) fill(t table.Table, at int, types ...int) {
	if len(types) != len(t.Columns) {
		c.fail(api.ErrWidth, at)
		return
	}
	for i, column := range t.Columns {
		c.expectFit(at, column.Type, types[i])
	}
}

func (c *checker) update(s *syntax.Update) {
	t := c.table(s.Table)
	around := itself(t)
	for i, set := range s.Sets {
		cell := t.Cell(set.Column.Word)
		if cell < 0 || isSet(set.Column.Word, s.Sets[:i]...) {
			c.fail(api.ErrName, set.Column.At)
			return
		}
		c.expectFit(set.Equals, t.Columns[cell].Type, c.expr(set.Expr, around))
	}
	c.condition(s.Where, around)
}

func isSet(column string, sets ...syntax.Set) bool {
	return slices.ContainsFunc(sets, func(s syntax.Set) bool { return s.Column.Word == column })
}

// query is the types of its columns.
func (c *checker) query(q syntax.Query, around *scope) []int {
	switch q := q.(type) {
	case *syntax.Select:
		return c.selected(q, around)
	case *syntax.Combined:
		return c.combined(q, around)
	}
	return nil
}

func (c *checker) combined(q *syntax.Combined, around *scope) []int {
	first := c.query(q.First, around)
	second := c.query(q.Second, around)
	if len(first) != len(second) {
		c.fail(api.ErrWidth, q.At)
		return first
	}
	var types []int
	for i := range first {
		types = append(types, c.expectFit(q.At, first[i], second[i]))
	}
	return types
}

func (c *checker) selected(s *syntax.Select, around *scope) []int {
	in := c.from(s.From, around)
	types := c.columns(s, in)
	c.condition(s.Where, in)
	return types
}

func (c *checker) columns(s *syntax.Select, in *scope) []int {
	if s.Exprs != nil {
		return c.exprs(s.Exprs, in)
	}
	if s.From == nil {
		c.fail(api.ErrWidth, s.Star)
	}
	return in.types()
}
