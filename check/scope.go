package check

import (
	"slices"

	"satchel/api"
	"satchel/syntax"
	"satchel/table"
)

// source is a table by the name it is called by where it stands.
type source struct {
	called string
	table.Table
}

// scope is the tables that a name in an expr may mean a column of: those of the
// innermost select around it, and what is around that. Where nothing is around
// it is nil.
type scope struct {
	sources []source
	around  *scope
}

// itself is what is around in an update or delete: the table, by its own name.
func itself(t table.Table) *scope {
	return &scope{sources: []source{{t.Name, t}}}
}

// from makes the scope of what stands behind a from.
func (c *checker) from(sources []syntax.Source, around *scope) *scope {
	made := &scope{around: around}
	for _, s := range sources {
		t := c.table(s.Table)
		if made.has(s.Called.Word) {
			c.fail(api.ErrName, s.Called.At)
		}
		made.sources = append(made.sources, source{s.Called.Word, t})
	}
	c.noteMuch(made)
	return made
}

// noteMuch counts no further than to what is too much: many tables could make
// a number too great for any int.
func (c *checker) noteMuch(in *scope) {
	product := 1
	for ; in != nil; in = in.around {
		for _, s := range in.sources {
			product = min(product*max(1, len(s.Rows)), api.MaxProduct+1)
		}
	}
	if product > api.MaxProduct {
		c.much = true
	}
}

func (s *scope) has(called string) bool {
	return slices.ContainsFunc(s.sources, func(one source) bool { return one.called == called })
}

// types are those of all columns of the innermost select, from the left.
func (s *scope) types() []int {
	var types []int
	for _, one := range s.sources {
		for _, column := range one.Columns {
			types = append(types, column.Type)
		}
	}
	return types
}

// column finds out what a name in an expr means, and is of its type. The first
// select, going out, that has a table for the name decides, even if it has too
// many of them, or no such column in it.
func (c *checker) column(name *syntax.Column, in *scope) int {
	name.Out = 0
	for in != nil && len(in.tablesFor(name)) == 0 {
		in = in.around
		name.Out++
	}
	if in == nil || !in.means(name) {
		c.fail(api.ErrName, name.At)
		return none
	}
	return in.sources[name.Source].Columns[name.Cell].Type
}

// means finds out which cell a name means of the innermost select's tables, and
// tells whether it means just one.
func (s *scope) means(name *syntax.Column) bool {
	numbers := s.tablesFor(name)
	name.Source = numbers[0]
	name.Cell = s.sources[name.Source].Cell(name.Name)
	return len(numbers) == 1 && name.Cell >= 0
}

// tablesFor are the numbers of the innermost select's tables that are called what
// stands ahead of the name or, if nothing does, that have such a column.
func (s *scope) tablesFor(name *syntax.Column) []int {
	var numbers []int
	for i, one := range s.sources {
		if name.Table == one.called || name.Table == "" && one.Cell(name.Name) >= 0 {
			numbers = append(numbers, i)
		}
	}
	return numbers
}
