package syntax

import (
	"strings"
	"testing"

	"satchel/api"
)

// grammar is the document's, as it stands there, but for two things that its
// words say beside it: a seventh column is refused at its first token ("never"
// is no token), and the "(" of an atom is a query's (here "(q") or an expr's
// (here "(e"), whatever follows.
const grammar = `
statement = "create" "table" name "(" name type columns ")" | "drop" "table" name
          | "insert" "into" name ("values" row ("," row)* | query)
          | "delete" "from" name ["where" expr]
          | "update" name "set" name "=" expr ("," name "=" expr)* ["where" expr]
          | "begin" | "commit" | "rollback" | query
columns   = ["," name type ["," name type ["," name type ["," name type ["," name type ["," "never"]]]]]]
type      = "int" | "text" | "bool"
row       = "(" expr ("," expr)* ")"
query     = term (("union" | "except") ["all"] term)*
term      = factor ("intersect" ["all"] factor)*
factor    = "(" query ")" | "select" ["distinct"] ("*" | expr ("," expr)*)
            ["from" name [name] ("," name [name])*] ["where" expr]
expr      = both ("or" both)*
both      = no ("and" no)*
no        = "not" no | compare
compare   = sum [("=" | "<>" | "<" | "<=" | ">" | ">=") sum | "is" ["not"] "null" | ["not"] "in" "(" query ")"]
sum       = product (("+" | "-") product)*
product   = unary (("*" | "/") unary)*
unary     = "-" unary | atom
atom      = number | text | "true" | "false" | "null" | name ["." name] | "(e" expr ")" | "(q" query ")"
          | "exists" "(" query ")" | "coalesce" "(" expr ("," expr)* ")"
          | "case" ("when" expr "then" expr)+ ["else" expr] "end"
`

const keywords = " all and begin bool case coalesce commit create delete distinct drop else end except exists false from in insert int intersect into is not null or rollback select set table text then true union update values when where "

const signs = " ( ) , . * + - / = <> < <= > >= "

// node is a piece of the grammar: a terminal in quotes, a rule's name, or
// parts in a row ("sequence"), one of them ("or"), perhaps ("["), as often as you
// like ("*"), at least once ("+").
type node struct {
	what  string
	parts []*node
}

type grammarReader struct {
	words []string
	next  int
}

func readGrammar(source string) map[string]*node {
	rules := map[string]*node{}
	for _, mark := range []string{"(", ")", "[", "]", "*", "+", "|"} {
		source = spaceOut(source, mark)
	}
	words := strings.Fields(source)
	starts := []int{}
	for i, word := range words {
		if word == "=" {
			starts = append(starts, i)
		}
	}
	for k, start := range starts {
		stop := len(words)
		if k+1 < len(starts) {
			stop = starts[k+1] - 1
		}
		r := &grammarReader{words: words[start+1 : stop]}
		rules[words[start-1]] = r.choice()
	}
	return rules
}

// spaceOut puts spaces around each mark that does not stand in quotes.
func spaceOut(source, mark string) string {
	pieces := strings.Split(source, `"`)
	for i := 0; i < len(pieces); i += 2 {
		pieces[i] = strings.ReplaceAll(pieces[i], mark, " "+mark+" ")
	}
	return strings.Join(pieces, `"`)
}

func (r *grammarReader) sees(words string) bool {
	return r.next < len(r.words) && strings.Contains(words, r.words[r.next])
}

func (r *grammarReader) choice() *node {
	n := &node{what: "or", parts: []*node{r.row()}}
	for r.sees("|") {
		r.next++
		n.parts = append(n.parts, r.row())
	}
	return n
}

func (r *grammarReader) row() *node {
	n := &node{what: "sequence"}
	for r.next < len(r.words) && !r.sees("|)]") {
		n.parts = append(n.parts, r.repeated())
	}
	return n
}

func (r *grammarReader) repeated() *node {
	n := r.single()
	if r.sees("*+") {
		n = &node{what: r.words[r.next], parts: []*node{n}}
		r.next++
	}
	return n
}

func (r *grammarReader) single() *node {
	word := r.words[r.next]
	r.next++
	if word != "(" && word != "[" {
		return &node{what: word}
	}
	n := r.choice()
	r.next++
	if word == "[" {
		n = &node{what: "[", parts: []*node{n}}
	}
	return n
}

type spot struct {
	n    *node
	from int
}

// matcher tries every way to read tokens by the grammar. A terminal is tried
// at a token only behind tokens that a statement can begin with, so that the
// furthest token ever tried is the first that is wrong, if one is.
type matcher struct {
	rules    map[string]*node
	tokens   []string
	furthest int
	found    map[spot][]int
}

// judge answers the number of the first wrong token, or -1.
func judge(rules map[string]*node, tokens []string) int {
	m := &matcher{rules: rules, tokens: tokens, found: map[spot][]int{}}
	for _, end := range m.ends(&node{what: "statement"}, 0) {
		m.furthest = max(m.furthest, end)
		if end == len(tokens) {
			return -1
		}
	}
	return m.furthest
}

// ends tells where what n reads from there on may end.
func (m *matcher) ends(n *node, from int) []int {
	at := spot{n, from}
	if known, ok := m.found[at]; ok {
		return known
	}
	set := map[int]int{}
	add := func(more []int) {
		for _, end := range more {
			set[end] = end
		}
	}
	switch n.what {
	case "or":
		for _, part := range n.parts {
			add(m.ends(part, from))
		}
	case "sequence":
		add(m.rowEnds(n.parts, from))
	case "[":
		set[from] = from
		add(m.ends(n.parts[0], from))
	case "*":
		set[from] = from
		add(m.moreEnds(n, from))
	case "+":
		add(m.moreEnds(&node{what: "*", parts: n.parts}, from))
	default:
		if rule := m.rules[n.what]; rule != nil {
			add(m.ends(rule, from))
			break
		}
		m.furthest = max(m.furthest, from)
		if m.fits(n.what, from) {
			set[from+1] = from + 1
		}
	}
	list := []int{}
	for end := range set {
		list = append(list, end)
	}
	m.found[at] = list
	return list
}

func (m *matcher) rowEnds(parts []*node, from int) []int {
	if len(parts) == 0 {
		return []int{from}
	}
	list := []int{}
	for _, middle := range m.ends(parts[0], from) {
		list = append(list, m.rowEnds(parts[1:], middle)...)
	}
	return list
}

// moreEnds reads the part of star once, and then star again.
func (m *matcher) moreEnds(star *node, from int) []int {
	list := []int{}
	for _, middle := range m.ends(star.parts[0], from) {
		list = append(list, m.ends(star, middle)...)
	}
	return list
}

func (m *matcher) fits(terminal string, at int) bool {
	if at == len(m.tokens) {
		return false
	}
	token := m.tokens[at]
	fixed := strings.Contains(keywords+signs, " "+token+" ")
	switch terminal {
	case "name":
		return !fixed && token[0] >= 'a'
	case "number":
		return !fixed && token[0] >= '0' && token[0] <= '9'
	case "text":
		return token[0] == '\''
	case `"(q"`:
		return token == "(" && m.selectBehind(at)
	case `"(e"`:
		return token == "(" && !m.selectBehind(at)
	}
	return terminal == `"`+token+`"`
}

func (m *matcher) selectBehind(at int) bool {
	for at < len(m.tokens) && m.tokens[at] == "(" {
		at++
	}
	return at < len(m.tokens) && m.tokens[at] == "select"
}

// seeds hold every rule of the grammar; between their tokens stand single spaces.
const seeds = `create table t ( a int , b text , c bool )
create table t ( a int , b int , c int , d int , e int , f int )
drop table t
insert into t values ( 1 , 'x' ) , ( null , true )
insert into t select 1
insert into t ( ( select 1 ) union select 2 )
delete from t where a
update t set a = 1 , b = a + 1 where false
begin
commit
rollback
select distinct a , t . b from t , u v where a
select * from t union all select 1 except ( select 2 intersect all select 3 )
( ( select 1 ) intersect select 2 )
select a or b and not not c
select a = 1 , a <> 2 , a < 3 , a <= 4 , a > 5 , a >= 6
select a is null , a is not null
select a in ( select 1 ) , a not in ( ( select 1 ) )
select 1 + 2 * - - 3 - 4 / 5
select ( ( 1 ) ) , ( ( select 1 ) union select 2 ) + ( ( a ) )
select exists ( ( select 1 ) ) , coalesce ( a , ( select 1 ) )
select case when a then b when c then d else e end , case when a then b end
`

// others are the tokens that are laid into the seeds: all keywords and signs,
// some of the other kinds, and what is no token.
func others() []string {
	return append(strings.Fields(keywords+signs), "a", "t", "values2", "7", "007", "'x'", "''", "#", "'", "thirteenlette", "9223372036854775808")
}

// TestGrammar (P3): in each seed, cut off behind each token and then with each
// token put in, taken out or put in another's stead, Parse finds the place
// that the grammar itself does.
func TestGrammar(t *testing.T) {
	rules := readGrammar(grammar)
	for _, line := range strings.Split(strings.TrimSpace(seeds), "\n") {
		tokens := strings.Fields(line)
		if judge(rules, tokens) != -1 {
			t.Fatalf("the seed %q is no statement", line)
		}
		for i := range len(tokens) + 1 {
			compareWith(t, rules, tokens[:i])
			for _, other := range others() {
				compareWith(t, rules, tokens[:i], []string{other}, tokens[i:])
				compareWith(t, rules, tokens[:i], []string{other}, tokens[min(i+1, len(tokens)):])
			}
			compareWith(t, rules, tokens[:i], tokens[min(i+1, len(tokens)):])
		}
	}
}

func compareWith(t *testing.T, rules map[string]*node, pieces ...[]string) {
	t.Helper()
	tokens := []string{}
	for _, piece := range pieces {
		tokens = append(tokens, piece...)
	}
	// a text without an end takes in all that follows
	for i, token := range tokens {
		if token == "'" {
			tokens = tokens[:i+1]
			break
		}
	}
	src := strings.Join(tokens, " ")
	wantErr, wantAt := api.OK, 0
	if wrong := judge(rules, usable(tokens)); wrong != -1 {
		wantErr, wantAt = api.ErrSyntax, len(src)
		if wrong < len(tokens) {
			wantAt = len(strings.Join(append(tokens[:wrong:wrong], ""), " "))
		}
	}
	if _, e, at := Parse(src); e != wantErr || at != wantAt {
		t.Errorf("Parse(%q) = %d, %d, want %d, %d", src, e, at, wantErr, wantAt)
	}
}

// usable makes what is no token something that no terminal fits.
func usable(tokens []string) []string {
	list := []string{}
	for _, token := range tokens {
		switch token {
		case "#", "'", "thirteenlette", "9223372036854775808":
			token = "#"
		}
		list = append(list, token)
	}
	return list
}
