package syntax

import "satchel/api"

func (p *parser) statement() Statement {
	switch first := p.peek(); {
	case p.accept("create"):
		return p.create()
	case p.accept("drop"):
		p.expect("table")
		return &Drop{p.name()}
	case p.accept("insert"):
		return p.insert()
	case p.accept("delete"):
		p.expect("from")
		return &Delete{p.name(), p.clauseIfAny("where")}
	case p.accept("update"):
		return p.update()
	case p.accept("begin", "commit", "rollback"):
		return &Transaction{first.word}
	}
	return p.query()
}

func (p *parser) create() *Create {
	p.expect("table")
	table := p.name()
	p.expect("(")
	count := 0
	columns := list(p, func() NewColumn {
		count++
		if count > api.MaxColumns {
			p.refuse()
		}
		return NewColumn{p.name(), p.columnType()}
	})
	p.expect(")")
	return &Create{table, columns}
}

func (p *parser) columnType() int {
	switch {
	case p.accept("int"):
		return api.Int
	case p.accept("text"):
		return api.Text
	case p.accept("bool"):
		return api.Bool
	}
	p.refuse()
	return api.Null
}

func (p *parser) insert() *Insert {
	insert := &Insert{Into: p.peek().at}
	p.expect("into")
	insert.Table = p.name()
	if p.accept("values") {
		insert.Rows = list(p, p.row)
	} else {
		insert.Query = p.query()
	}
	return insert
}

// row does not count its "(" as open, unlike enclosed.
func (p *parser) row() Row {
	at := p.peek().at
	p.expect("(")
	exprs := p.exprs()
	p.expect(")")
	return Row{at, exprs}
}

func (p *parser) update() *Update {
	table := p.name()
	p.expect("set")
	return &Update{table, list(p, p.set), p.clauseIfAny("where")}
}

func (p *parser) set() Set {
	column := p.name()
	equals := p.clause("=")
	return Set{column, equals.At, equals.Expr}
}

func (p *parser) query() Query { return p.combined(p.term, "union", "except") }

func (p *parser) term() Query { return p.combined(p.factor, "intersect") }

// combined reads queries with these words between: the first two belong together first.
func (p *parser) combined(side func() Query, words ...string) Query {
	made := side()
	for word := p.peek(); p.accept(words...); word = p.peek() {
		made = &Combined{word.word, word.at, p.accept("all"), made, side()}
	}
	return made
}

func (p *parser) factor() Query {
	if p.sees("(") {
		return enclosed(p, p.query)
	}
	p.expect("select")
	made := &Select{Distinct: p.accept("distinct"), Star: p.peek().at}
	if !p.accept("*") {
		made.Exprs = p.exprs()
	}
	if p.accept("from") {
		made.From = list(p, p.source)
	}
	made.Where = p.clauseIfAny("where")
	return made
}

func (p *parser) source() Source {
	table := p.name()
	if p.peek().kind == name {
		return Source{table, p.name()}
	}
	return Source{table, table}
}
