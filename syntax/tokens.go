package syntax

import (
	"slices"
	"strconv"

	"satchel/api"
)

type kind int

const (
	end    kind = iota // behind the last byte
	bad                // no token
	fixed              // a keyword or a sign
	name               // any other word
	number             // digits
	text               // bytes between quotes
)

type token struct {
	kind kind
	at   int
	word string
}

// is tells whether t is one of these keywords and signs. The words are enough:
// no name is a keyword, and a text has its quotes.
func (t token) is(words ...string) bool {
	return slices.Contains(words, t.word)
}

// split cuts src into tokens. The last one is the end or the first thing that
// is no token: no statement reaches beyond that, so nobody asks what follows.
func split(src string) []token {
	var tokens []token
	at := 0
	for {
		at += countFirst(src[at:], isSpace)
		next := firstToken(src[at:])
		next.at = at
		tokens = append(tokens, next)
		if next.kind == end || next.kind == bad {
			return tokens
		}
		at += len(next.word)
	}
}

// countFirst tells how many bytes that are such stand at the beginning of rest.
func countFirst(rest string, isSuch func(byte) bool) int {
	count := 0
	for count < len(rest) && isSuch(rest[count]) {
		count++
	}
	return count
}

func firstToken(rest string) token {
	if rest == "" {
		return token{kind: end}
	}
	switch first := rest[0]; {
	case isLetter(first):
		word := rest[:countFirst(rest, isWordByte)]
		return token{kind: wordKind(word), word: word}
	case isDigit(first):
		digits := rest[:countFirst(rest, isDigit)]
		return token{kind: numberKind(digits), word: digits}
	case first == '\'':
		return tokenUnlessEmpty(text, rest[:textLength(rest)])
	}
	return tokenUnlessEmpty(fixed, rest[:signLength(rest)])
}

func tokenUnlessEmpty(k kind, word string) token {
	if word == "" {
		return token{kind: bad}
	}
	return token{kind: k, word: word}
}

func wordKind(word string) kind {
	switch {
	case isKeyword(word):
		return fixed
	case len(word) <= api.MaxName:
		return name
	}
	return bad
}

func numberKind(digits string) kind {
	if _, err := strconv.ParseInt(digits, 10, 64); err != nil {
		return bad
	}
	return number
}

// textLength is 0 where the text that begins rest has no end.
func textLength(rest string) int {
	for i := 1; i < len(rest); i++ {
		if rest[i] != '\'' {
			continue
		}
		if i+1 == len(rest) || rest[i+1] != '\'' {
			return i + 1
		}
		i++ // the second quote of a pair belongs to the text
	}
	return 0
}

// signLength is 0 where no sign begins rest.
func signLength(rest string) int {
	if len(rest) > 1 {
		switch rest[:2] {
		case "<>", "<=", ">=":
			return 2
		}
	}
	switch rest[0] {
	case '(', ')', ',', '.', '*', '+', '-', '/', '=', '<', '>':
		return 1
	}
	return 0
}

func isSpace(b byte) bool { return b == ' ' || b == '\n' }

func isLetter(b byte) bool { return 'a' <= b && b <= 'z' }

func isDigit(b byte) bool { return '0' <= b && b <= '9' }

func isWordByte(b byte) bool { return isLetter(b) || isDigit(b) || b == '_' }

func isKeyword(word string) bool {
	switch word {
	case "all", "and", "begin", "bool", "case", "coalesce", "commit", "create",
		"delete", "distinct", "drop", "else", "end", "except", "exists", "false",
		"from", "in", "insert", "int", "intersect", "into", "is", "not", "null",
		"or", "rollback", "select", "set", "table", "text", "then", "true",
		"union", "update", "values", "when", "where":
		return true
	}
	return false
}
