package syntax

func (p *parser) expr() {
	p.both()
	for p.accept("or") {
		p.both()
	}
}

func (p *parser) both() {
	p.no()
	for p.accept("and") {
		p.no()
	}
}

func (p *parser) no() {
	if p.sees("not") {
		p.opened("not", p.no)
		return
	}
	p.compare()
}

func (p *parser) compare() {
	p.sum()
	switch {
	case p.accept("=", "<>", "<", "<=", ">", ">="):
		p.sum()
	case p.accept("is"):
		p.accept("not")
		p.expect("null")
	case p.accept("not"):
		p.expect("in")
		p.enclosed(p.query)
	case p.accept("in"):
		p.enclosed(p.query)
	}
}

func (p *parser) sum() {
	p.product()
	for p.accept("+", "-") {
		p.product()
	}
}

func (p *parser) product() {
	p.unary()
	for p.accept("*", "/") {
		p.unary()
	}
}

func (p *parser) unary() {
	if p.sees("-") {
		p.opened("-", p.unary)
		return
	}
	p.atom()
}

func (p *parser) atom() {
	switch {
	case p.acceptKind(number, text), p.accept("true", "false", "null"):
	case p.acceptKind(name):
		if p.accept(".") {
			p.name()
		}
	case p.sees("("):
		p.enclosed(p.inAtom())
	case p.accept("exists"):
		p.enclosed(p.query)
	case p.accept("coalesce"):
		p.enclosed(p.exprs)
	case p.sees("case"):
		p.opened("case", p.arms)
	default:
		p.refuse()
	}
}

func (p *parser) exprs() { p.list(p.expr) }

// inAtom is what stands inside the "(" of an atom that is next: a query if
// select is the first token behind it that is no "(", else an expr.
func (p *parser) inAtom() func() {
	i := p.next
	for p.tokens[i].is("(") {
		i++
	}
	if p.tokens[i].is("select") {
		return p.query
	}
	return p.expr
}

// arms reads what stands behind case, up to its end.
func (p *parser) arms() {
	p.arm()
	for p.sees("when") {
		p.arm()
	}
	if p.accept("else") {
		p.expr()
	}
	p.expect("end")
}

func (p *parser) arm() {
	p.expect("when")
	p.expr()
	p.expect("then")
	p.expr()
}
