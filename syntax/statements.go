package syntax

import "satchel/api"

func (p *parser) statement() {
	switch {
	case p.accept("create"):
		p.create()
	case p.accept("drop"):
		p.expect("table")
		p.name()
	case p.accept("insert"):
		p.insert()
	case p.accept("delete"):
		p.expect("from")
		p.name()
		p.where()
	case p.accept("update"):
		p.update()
	case p.accept("begin", "commit", "rollback"):
	default:
		p.query()
	}
}

func (p *parser) create() {
	p.expect("table")
	p.name()
	p.expect("(")
	columns := 0
	p.list(func() {
		columns++
		if columns > api.MaxColumns {
			p.refuse()
		}
		p.column()
	})
	p.expect(")")
}

func (p *parser) column() {
	p.name()
	p.expectOneOf("int", "text", "bool")
}

func (p *parser) insert() {
	p.expect("into")
	p.name()
	if p.accept("values") {
		p.list(p.row)
		return
	}
	p.query()
}

// row does not count its "(" as open, unlike enclosed.
func (p *parser) row() {
	p.expect("(")
	p.list(p.expr)
	p.expect(")")
}

func (p *parser) update() {
	p.name()
	p.expect("set")
	p.list(p.assignment)
	p.where()
}

func (p *parser) assignment() {
	p.name()
	p.expect("=")
	p.expr()
}

// where reads a where, if there is one.
func (p *parser) where() {
	if p.accept("where") {
		p.expr()
	}
}

func (p *parser) query() {
	p.term()
	for p.accept("union", "except") {
		p.accept("all")
		p.term()
	}
}

func (p *parser) term() {
	p.factor()
	for p.accept("intersect") {
		p.accept("all")
		p.factor()
	}
}

func (p *parser) factor() {
	if p.sees("(") {
		p.enclosed(p.query)
		return
	}
	p.expect("select")
	p.accept("distinct")
	if !p.accept("*") {
		p.list(p.expr)
	}
	if p.accept("from") {
		p.list(p.source)
	}
	p.where()
}

// source reads a table behind a from, with the name it has there.
func (p *parser) source() {
	p.name()
	p.acceptKind(name)
}
