package syntax

import (
	"strconv"
	"strings"

	"satchel/api"
	"satchel/value"
)

func (p *parser) exprs() []Expr { return list(p, p.expr) }

func (p *parser) expr() Expr { return p.chain(p.both, "or") }

func (p *parser) both() Expr { return p.chain(p.no, "and") }

func (p *parser) sum() Expr { return p.chain(p.product, "+", "-") }

func (p *parser) product() Expr { return p.chain(p.unary, "*", "/") }

// chain reads operands with these words between: the first two belong together first.
func (p *parser) chain(operand func() Expr, words ...string) Expr {
	made := operand()
	for sign := p.peek(); p.accept(words...); sign = p.peek() {
		made = operation(sign, made, operand())
	}
	return made
}

func operation(sign token, operands ...Expr) Expr {
	return &Operation{sign.word, sign.at, operands}
}

func (p *parser) no() Expr {
	if p.sees("not") {
		return p.ahead("not", p.no)
	}
	return p.compare()
}

func (p *parser) unary() Expr {
	if p.sees("-") {
		return p.ahead("-", p.unary)
	}
	return p.atom()
}

// ahead reads a word, which is open, and the operand that it stands ahead of.
func (p *parser) ahead(word string, operand func() Expr) Expr {
	sign := p.peek()
	return operation(sign, opened(p, word, operand))
}

func (p *parser) compare() Expr {
	left := p.sum()
	switch sign := p.peek(); {
	case p.accept("=", "<>", "<", "<=", ">", ">="):
		return operation(sign, left, p.sum())
	case p.accept("is"):
		return p.isNull(operation(sign, left))
	case p.accept("not"):
		in := p.peek()
		p.expect("in")
		return operation(sign, p.within(in, left))
	case p.accept("in"):
		return p.within(sign, left)
	}
	return left
}

// isNull reads what stands behind is. An is not null is a not ahead of an is null.
func (p *parser) isNull(is Expr) Expr {
	not := p.peek()
	negated := p.accept("not")
	p.expect("null")
	if negated {
		return operation(not, is)
	}
	return is
}

func (p *parser) atom() Expr {
	switch first := p.peek(); {
	case p.acceptKind(number):
		return &Constant{numberOf(first.word)}
	case p.acceptKind(text):
		return &Constant{textOf(first.word)}
	case p.accept("true"):
		return &Constant{value.Bool(true)}
	case p.accept("false"):
		return &Constant{value.Bool(false)}
	case p.accept("null"):
		return &Constant{value.Null()}
	case first.kind == name:
		return p.column()
	case p.isQuery(), p.accept("exists"):
		return p.within(first)
	case p.sees("("):
		return enclosed(p, p.expr)
	case p.accept("coalesce"):
		return operation(first, enclosed(p, p.exprs)...)
	case p.sees("case"):
		return opened(p, "case", p.arms)
	}
	p.refuse()
	return nil
}

func numberOf(digits string) api.Value {
	n, _ := strconv.ParseInt(digits, 10, 64) // no token is too great
	return value.Int(n)
}

// textOf copies what stands between the quotes: a table may keep it for longer
// than the statement lives.
func textOf(quoted string) api.Value {
	inside := quoted[1 : len(quoted)-1]
	return value.Text(strings.Clone(strings.ReplaceAll(inside, "''", "'")))
}

func (p *parser) column() Expr {
	first := p.name()
	if p.accept(".") {
		return &Column{Table: first.Word, Name: p.name().Word, At: first.At}
	}
	return &Column{Name: first.Word, At: first.At}
}

// within reads the query of an exists, of an in with its operand, or by itself:
// then the word is its "(".
func (p *parser) within(word token, operands ...Expr) Expr {
	return &Within{word.word, word.at, operands, enclosed(p, p.query)}
}

// isQuery tells whether the atom that is next is a query: whether select is the
// first token behind its "(" that is no "(".
func (p *parser) isQuery() bool {
	i := p.next
	for p.tokens[i].is("(") {
		i++
	}
	return i > p.next && p.tokens[i].is("select")
}

// arms reads what stands behind case, up to its end.
func (p *parser) arms() Expr {
	made := &Case{Arms: []Arm{p.arm()}}
	for p.sees("when") {
		made.Arms = append(made.Arms, p.arm())
	}
	made.Else = p.clauseIfAny("else")
	p.expect("end")
	return made
}

func (p *parser) arm() Arm {
	return Arm{p.clause("when"), p.clause("then")}
}
