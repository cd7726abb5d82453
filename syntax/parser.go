// Package syntax reads statements: their tokens, their grammar, and the tree
// that a statement is.
package syntax

import "satchel/api"

// Parse makes a statement of src, with OK 0, or tells what is wrong first and
// where (P3).
func Parse(src string) (Statement, api.Errno, int) {
	if len(src) > api.MaxText {
		return nil, api.ErrLong, 0
	}
	p := parser{tokens: split(src)}
	statement := p.statement()
	p.expectEnd()
	if p.errno != api.OK {
		return nil, p.errno, p.at
	}
	return statement, api.OK, 0
}

// parser goes through the tokens once, from the left. A part of the grammar is
// a method that reads as far as it can; the first token that fits nowhere is
// thus the first one behind which nothing could make it a statement. Behind an
// error what the methods answer is of no use, and nobody gets it.
type parser struct {
	tokens []token
	next   int
	depth  int // how many things are open
	errno  api.Errno
	at     int
}

// fail keeps the first error only. It goes to the last token, which no part of
// the grammar takes, so that all that is under way ends by itself.
func (p *parser) fail(errno api.Errno, at int) {
	if p.errno != api.OK {
		return
	}
	p.errno, p.at = errno, at
	p.next = len(p.tokens) - 1
}

func (p *parser) refuse() {
	p.fail(api.ErrSyntax, p.peek().at)
}

func (p *parser) peek() token {
	return p.tokens[p.next]
}

func (p *parser) sees(words ...string) bool {
	return p.peek().is(words...)
}

// accept takes the next token if it is one of these words.
func (p *parser) accept(words ...string) bool {
	if !p.sees(words...) {
		return false
	}
	p.next++
	return true
}

// expect takes all these words, one behind the other.
func (p *parser) expect(words ...string) {
	for _, word := range words {
		if !p.accept(word) {
			p.refuse()
		}
	}
}

func (p *parser) expectEnd() {
	if p.peek().kind != end {
		p.refuse()
	}
}

// acceptKind takes the next token if it is of that kind.
func (p *parser) acceptKind(k kind) bool {
	if p.peek().kind != k {
		return false
	}
	p.next++
	return true
}

func (p *parser) name() Name {
	next := p.peek()
	if !p.acceptKind(name) {
		p.refuse()
	}
	return Name{next.word, next.at}
}

// clause reads a word and the expr behind it.
func (p *parser) clause(word string) Clause {
	at := p.peek().at
	p.expect(word)
	return Clause{at, p.expr()}
}

// clauseIfAny reads a word and the expr behind it, if the word stands there.
func (p *parser) clauseIfAny(word string) *Clause {
	if !p.sees(word) {
		return nil
	}
	clause := p.clause(word)
	return &clause
}

// list reads an item, and more of them with commas between.
func list[T any](p *parser, item func() T) []T {
	items := []T{item()}
	for p.accept(",") {
		items = append(items, item())
	}
	return items
}

// opened reads first and what is inside it, up to where it is open no more.
func opened[T any](p *parser, first string, inside func() T) T {
	at := p.peek().at
	p.expect(first)
	p.depth++
	if p.depth > api.MaxDepth {
		p.fail(api.ErrDeep, at)
	}
	item := inside()
	p.depth--
	return item
}

// enclosed reads what stands between an open "(" and its ")".
func enclosed[T any](p *parser, inside func() T) T {
	return opened(p, "(", func() T {
		item := inside()
		p.expect(")")
		return item
	})
}
