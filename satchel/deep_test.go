package satchel

import (
	"strings"
	"testing"

	"satchel/api"
)

// nest is a thing that is open, and how it stands in itself: start, then ahead
// as often as it is open, core, behind as often, and last. The mark ^ in ahead
// is where it opens.
type nest struct {
	start, ahead, core, behind, last string
}

func (n nest) text(times int) string {
	ahead, _ := marked(n.ahead)
	return n.start + many(ahead, times) + n.core + many(n.behind, times) + n.last
}

// place is where the thing opens for the k-th time.
func (n nest) place(k int) int {
	ahead, at := marked(n.ahead)
	return len(n.start) + (k-1)*len(ahead) + at
}

func nests() []nest {
	return []nest{
		// the ( of an atom: of an expr, of a query
		{"select ", "^(", "1", ")", ""},
		{"select ", "1 + ^(", "1", ") * 2", " from t"},
		{"insert into t values (", "^(", "1", ")", ")"},
		{"select ", "^(", "select 1", ")", " + 1"},
		{"select ", "^(select ", "1", ")", ""},
		{"select * where ", "a = ^(select * where ", "true", ")", ""},
		// the ( of a factor
		{"", "^(", "select 1", ")", ""},
		{"", "^(select 1 union ", "select 1", ")", ""},
		{"select 1 intersect ", "^(", "select 1", ")", " except select 2"},
		{"insert into t ", "^(", "select 1", ")", ""},
		// the ( of in, of exists, of coalesce
		{"select ", "1 in ^(select ", "1", ")", ""},
		{"select ", "1 not in ^(select ", "1", ")", ""},
		{"select ", "exists ^(select ", "1", ")", ""},
		{"select ", "coalesce^(", "1", ", 2)", ""},
		{"select ", "coalesce^(3) + coalesce(2, ", "1", ")", ""},
		// not, -
		{"select ", "^not ", "true", "", ""},
		{"delete from t where a or ", "^not ", "true", "", " and a is not null"},
		{"select ", "^- ", "1", "", ""},
		{"select 2 - ", "^-", "1", "", " - 2"},
		// case, in each of its parts
		{"select ", "^case when ", "true", " then 1 end", ""},
		{"select ", "^case when 1 then ", "true", " end", ""},
		{"update t set a = 1, b = ", "^case when 1 then 2 else ", "3", " end", " where true"},
	}
}

// TestDeep (P3): 16 things open in one another are not too many, 17 are, and
// the 17th is the place, whatever follows it.
func TestDeep(t *testing.T) {
	for _, n := range nests() {
		wantAnswer(t, n.text(api.MaxDepth), answer{api.OK, 0})
		tooDeep := answer{api.ErrDeep, n.place(api.MaxDepth + 1)}
		wantAnswer(t, n.text(api.MaxDepth+1), tooDeep)
		wantAnswer(t, n.text(api.MaxDepth+2), tooDeep)
		wantAnswer(t, n.text(api.MaxDepth+1)+" #", tooDeep)
	}
}

// TestDeepMixed (P3): things of all kinds count together.
func TestDeepMixed(t *testing.T) {
	for _, outside := range nests() {
		if !strings.HasPrefix(outside.start, "select ") || strings.Contains(outside.core, "select") {
			continue
		}
		outside.core = "CORE"
		for _, inside := range []string{"^(1)", "^(select 1)", "^- 1", "^case when 1 then 2 end", "coalesce^(1)", "exists ^(select 1)"} {
			src, at := marked(strings.Replace(outside.text(api.MaxDepth), "CORE", inside, 1))
			wantAnswer(t, src, answer{api.ErrDeep, at})
			src, _ = marked(strings.Replace(outside.text(api.MaxDepth-1), "CORE", inside, 1))
			wantAnswer(t, src, answer{api.OK, 0})
		}
	}
}

// TestNotOpen (P3): what is closed again, or never open, does not count.
func TestNotOpen(t *testing.T) {
	full := "select " + many("(", 15)
	for _, src := range []string{
		"insert into t values (" + many("(", 16) + "1" + many(")", 16) + ", 1), (" + many("-", 16) + "1)",
		full + "a is not null" + many(")", 15),
		full + "a not in (select 1)" + many(")", 15),
		full + "(1 - 2 * 3 / 4)" + many(")", 15),
		"select " + many("not ", 16) + "a and " + many("not ", 16) + "a or " + many("not ", 16) + "a, " + many("not ", 16) + "a",
		"select " + many("- ", 16) + "1 * " + many("- ", 16) + "1 + " + many("- ", 16) + "1",
		"select " + many("(1) + ", 50) + "1",
		"select " + many("coalesce(1) + ", 50) + "1",
		"select " + many("case when 1 then 2 end + ", 50) + "1",
		"select " + many("exists (select 1) and ", 50) + "a",
		"select " + many("a in (select 1) or a not in (select 2) or ", 30) + "a",
		"select " + many("not a or ", 50) + "a",
		many("(select 1) union ", 50) + "select 1",
		"select " + many("1 + ", 400) + "1",
		"select 1" + many(" union select 1", 100),
	} {
		wantAnswer(t, src, answer{api.OK, 0})
	}
	for _, kind := range []string{"^(1)", "^-1", "^case when 1 then 2 end"} {
		src, at := marked("select " + many("not ", 15) + "(a and 1 = " + kind)
		wantAnswer(t, src, answer{api.ErrDeep, at})
	}
}

// TestFirstOfTwo (P3): of ErrSyntax and ErrDeep the one further left is told.
func TestFirstOfTwo(t *testing.T) {
	full := "select " + many("(", 16)
	wantMarked(t, api.ErrDeep,
		full+"^(#", full+"^()", full+"^(", full+"1 + ^(2 2", full+"^- -", full+"^not #", full+"^(select", full+"select ^(1)", full+"exists ^(#", full+"coalesce^()", full+"a in ^(1)", full+"a not in ^(", many("(", 16)+"^(1", many("(", 16)+"select ^- from", "insert into t "+many("(", 16)+"^((((1",
	)
	wantMarked(t, api.ErrSyntax,
		full+"^#((", full+"1 ^2 + (1)", full+"^* (1)", full+"^) (", full+"1 not ^(", full+"1 = ^not (1)", full+"exists ^-1", full+"coalesce ^case", full+"a in ^1 (", full+"a is ^(", full+"^'(", full+"1)^(", "^x"+many("(", 17), "create table t (^"+many("(", 17), "insert into t values (^)"+many("(", 17), "select 1 ^("+many("(", 17), full+"^", full+"1^", full+"exists^",
	)
}

// TestLong (P3): 2001 bytes are too long, whatever they are; 2000 are not.
func TestLong(t *testing.T) {
	for _, start := range []string{"", "select 1", "#", "select " + many("(", 17), "select '"} {
		wantAnswer(t, start+many(" ", api.MaxText+1-len(start)), answer{api.ErrLong, 0})
		wantAnswer(t, start+many("(", 3*api.MaxText), answer{api.ErrLong, 0})
	}
	wantAnswer(t, "select 1"+many(" ", api.MaxText-8), answer{api.OK, 0})
	wantAnswer(t, "select '"+many("x", api.MaxText-9)+"'", answer{api.OK, 0})
	wantAnswer(t, "select '"+many("x", api.MaxText-8)+"'", answer{api.ErrLong, 0})
	wantAnswer(t, many(" ", api.MaxText), answer{api.ErrSyntax, api.MaxText})
	wantAnswer(t, many("\n", api.MaxText-1)+"x", answer{api.ErrSyntax, api.MaxText - 1})
	wantAnswer(t, "select"+many(" ", api.MaxText-6), answer{api.ErrSyntax, api.MaxText})
	wantAnswer(t, "select "+many("(", api.MaxText-7), answer{api.ErrDeep, 23})
}
