package check

import (
	"slices"

	"satchel/api"
	"satchel/syntax"
	"satchel/table"
)

// source is a table by the name it is called by where it stands.
type source struct {
	called string
	table.Table
}

// scope is the tables that a name in an expr may mean a column of.
type scope []source

// itself is what is around in an update or delete: the table, by its own name.
func itself(t table.Table) scope { return scope{{t.Name, t}} }

// from makes the scope of what stands behind a from.
func (c *checker) from(sources []syntax.Source) scope {
	var made scope
	for _, s := range sources {
		t := c.table(s.Table)
		if made.has(s.Called.Word) {
			c.fail(api.ErrName, s.Called.At)
		}
		made = append(made, source{s.Called.Word, t})
	}
	c.noteMuch(made)
	return made
}

// noteMuch counts no further than to what is too much: many tables could make
// a number too great for any int.
func (c *checker) noteMuch(tables scope) {
	product := 1
	for _, s := range tables {
		product = min(product*max(1, len(s.Rows)), api.MaxProduct+1)
	}
	if product > api.MaxProduct {
		c.much = true
	}
}

func (s scope) has(called string) bool {
	return slices.ContainsFunc(s, func(one source) bool { return one.called == called })
}

// types are those of all columns, from the left.
func (s scope) types() []int {
	var types []int
	for _, one := range s {
		for _, column := range one.Columns {
			types = append(types, column.Type)
		}
	}
	return types
}

// column finds out what a name in an expr means, and is of its type.
func (c *checker) column(name *syntax.Column, in scope) int {
	found := 0
	for i, one := range in {
		cell := one.Cell(name.Name)
		if cell < 0 || name.Table != "" && name.Table != one.called {
			continue
		}
		found++
		name.Source, name.Cell = i, cell
	}
	if found != 1 {
		c.fail(api.ErrName, name.At)
		return none
	}
	return in[name.Source].Columns[name.Cell].Type
}
