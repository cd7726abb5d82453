package satchel

import (
	"testing"

	"satchel/api"
)

// oddTexts are texts of all sorts: each byte alone and in the middle of
// something, statements that stop anywhere, and much of the same.
func oddTexts() []string {
	texts := []string{"", "\x00", "\xff\xfe", "'\x00", "é", "select \xe2\x82", "select '\xff\x80'", many("\x00", api.MaxText), many("\xff", api.MaxText+1)}
	for b := range 256 {
		one := string([]byte{byte(b)})
		texts = append(texts, one, many(one, 30), many(one, api.MaxText), "select "+one, "select a"+one, "select '"+one, "select 1"+one+"2", "create table t (a"+one)
	}
	for _, src := range goodStatements() {
		for i := range len(src) {
			texts = append(texts, src[:i], src[i:], src[:i]+"\x00"+src[i:], src[:i]+"\xc3"+src[i+1:], src[:i]+"'"+src[i:])
		}
	}
	for _, word := range []string{"(", ")", "not ", "- ", "case ", "case when ", "exists (", "coalesce(", "select ", "(select ", "''", "' ", "1 ", "a.", "<", "in (select "} {
		for _, start := range []string{"", "select ", "insert into t values ", "create table "} {
			texts = append(texts, start+many(word, api.MaxText/len(word)-3), start+many(word, 17), start+many(word, 16))
		}
	}
	return texts
}

// TestEnds (P1): Parse answers at any text, with one of its errors and a place in the text.
func TestEnds(t *testing.T) {
	for _, src := range oddTexts() {
		got := parsed(src)
		switch got.err {
		case api.OK, api.ErrLong:
			if got.at != 0 {
				t.Errorf("Parse(%.80q) = %v, with a place", src, got)
			}
		case api.ErrSyntax, api.ErrDeep:
			if got.at < 0 || got.at > len(src) {
				t.Errorf("Parse(%.80q) = %v, outside of the text", src, got)
			}
		default:
			t.Errorf("Parse(%.80q) = %v, no error of Parse's", src, got)
		}
	}
}

// TestStopsInTheMiddle (P1, P3): the tokens that begin a statement are never
// wrong by themselves: with no more behind them only the end can be.
func TestStopsInTheMiddle(t *testing.T) {
	for _, src := range goodStatements() {
		for i := range len(src) {
			if src[i] != ' ' {
				continue
			}
			if got := parsed(src[:i]); got.err != api.OK && got != (answer{api.ErrSyntax, i}) && !insideText(src[:i]) {
				t.Errorf("Parse(%q) = %v", src[:i], got)
			}
		}
	}
}

func insideText(src string) bool {
	quotes := 0
	for i := range len(src) {
		if src[i] == '\'' {
			quotes++
		}
	}
	return quotes%2 == 1
}

// TestSameAnswer (P2): a text has the same answer whatever was parsed ahead of it.
func TestSameAnswer(t *testing.T) {
	texts := append(goodStatements(), "select 'x", "select (", "select "+many("(", 17), "create table t (a int, b int, c int", "create table u (d int, e int, f int, g int)", many(" ", api.MaxText+1), "#")
	first := []answer{}
	for _, src := range texts {
		first = append(first, parsed(src))
	}
	for i, before := range texts {
		for j, src := range texts {
			parsed(before)
			if got := parsed(src); got != first[j] {
				t.Errorf("Parse(%.80q) = %v, and %v behind %.80q", src, first[j], got, texts[i])
			}
		}
	}
}

// TestSameAnswerAtOnce (P2): nor does it matter what is parsed at the same time.
func TestSameAnswerAtOnce(t *testing.T) {
	texts := goodStatements()
	answers := make(chan bool)
	for range 4 {
		go func() {
			good := true
			for _, src := range texts {
				good = good && parsed(src) == answer{api.OK, 0}
			}
			answers <- good
		}()
	}
	for range 4 {
		if !<-answers {
			t.Error("Parse answers otherwise when several call it")
		}
	}
}
