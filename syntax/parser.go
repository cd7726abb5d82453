// Package syntax reads statements: their tokens and their grammar.
package syntax

import "satchel/api"

// Check tells whether src is a statement: OK 0, or what is wrong first and where (P3).
func Check(src string) (api.Errno, int) {
	if len(src) > api.MaxText {
		return api.ErrLong, 0
	}
	p := parser{tokens: split(src)}
	p.statement()
	p.expectEnd()
	return p.errno, p.at
}

// parser goes through the tokens once, from the left. A part of the grammar is
// a method that reads as far as it can; the first token that fits nowhere is
// thus the first one behind which nothing could make it a statement.
type parser struct {
	tokens []token
	next   int
	depth  int // how many things are open
	errno  api.Errno
	at     int
}

// fail keeps the first error only. It goes to the last token, which no part of
// the grammar takes, so that all that is under way ends by itself.
func (p *parser) fail(errno api.Errno, at int) {
	if p.errno != api.OK {
		return
	}
	p.errno, p.at = errno, at
	p.next = len(p.tokens) - 1
}

func (p *parser) refuse() {
	p.fail(api.ErrSyntax, p.tokens[p.next].at)
}

func (p *parser) sees(words ...string) bool {
	return p.tokens[p.next].is(words...)
}

// accept takes the next token if it is one of these words.
func (p *parser) accept(words ...string) bool {
	if !p.sees(words...) {
		return false
	}
	p.next++
	return true
}

// expect takes all these words, one behind the other.
func (p *parser) expect(words ...string) {
	for _, word := range words {
		if !p.accept(word) {
			p.refuse()
		}
	}
}

// expectOneOf takes one of these words.
func (p *parser) expectOneOf(words ...string) {
	if !p.accept(words...) {
		p.refuse()
	}
}

func (p *parser) expectEnd() {
	if p.tokens[p.next].kind != end {
		p.refuse()
	}
}

// acceptKind takes the next token if it is of one of these kinds.
func (p *parser) acceptKind(kinds ...kind) bool {
	for _, k := range kinds {
		if p.tokens[p.next].kind == k {
			p.next++
			return true
		}
	}
	return false
}

func (p *parser) name() {
	if !p.acceptKind(name) {
		p.refuse()
	}
}

// list reads an item, and more of them with commas between.
func (p *parser) list(item func()) {
	item()
	for p.accept(",") {
		item()
	}
}

// opened reads first and what is inside it, up to where it is open no more.
func (p *parser) opened(first string, inside func()) {
	at := p.tokens[p.next].at
	p.expect(first)
	p.depth++
	if p.depth > api.MaxDepth {
		p.fail(api.ErrDeep, at)
	}
	inside()
	p.depth--
}

// enclosed reads what stands between an open "(" and its ")".
func (p *parser) enclosed(inside func()) {
	p.opened("(", func() {
		inside()
		p.expect(")")
	})
}
