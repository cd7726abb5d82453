package satchel

import (
	"strings"
	"testing"

	"satchel/api"
)

// TestNames (P5): tables and columns that there are not, or twice.
func TestNames(t *testing.T) {
	wantErrors(t, shop(t), api.ErrName,
		"create table ^t (a int)", "create table x (a int, ^a int)", "create table x (a int, b int, ^a text, b int)", "create table x (a int, b int, c int, d int, e int, ^e int)",
		"drop table ^x", "insert into ^x values (1)", "insert into ^x select 1", "delete from ^x", "delete from ^x where true", "update ^x set a = 1",
		"update t set ^c = 1", "update t set ^t = 1", "update t set a = 1, ^a = 1", "update t set b = b, a = 1, ^b = b", "update t set b = b, ^x = 1, b = b",
		"select 1 from ^x", "select 1 from t, ^x, y", "select 1 from t, ^x t", "select 1 from ^x, t, t",
		"select 1 from t, ^t", "select 1 from t, u, ^t", "select 1 from t v, t ^v", "select 1 from t u, ^u", "select 1 from u, t ^u", "select 1 from t t, ^t", "select 1 from t v, u, w ^v, x",
	)
}

// TestMeanings (P5): a name in an expr means just one column of what is around, or nothing.
func TestMeanings(t *testing.T) {
	b := shop(t)
	wantErrors(t, b, api.ErrName,
		"select ^c from t", "select ^t from t", "select ^a", "select 1 where ^a = 1", "select ^t.a", "select ^a from t, u", "select ^a from t, t v", "select ^a from t, u, w", "select b, c, ^a from t, u",
		"select ^t.c from t", "select ^t.c from t, u", "select ^u.a from t", "select ^t.a from t v", "select ^x.a from t", "select ^b.a from t", "select 1 from t where ^v.a = 1", "select v.a, ^t.a from t v",
		"select -^x from t", "select not ^x from t", "select 1 + ^x from t", "select coalesce(1, ^x) from t", "select ^x is null from t", "select (((^x))) from t",
		"select case when ^x then 1 end from t", "select case when true then ^x end from t", "select case when true then 1 else ^x end from t",
		"insert into t values (^a, b)", "insert into t values (1, 'x'), (2, ^b)", "insert into t values (^t.a, 'x')", "insert into t select ^a, 'x'", "insert into t select a, ^b from u",
		"delete from t where ^c", "delete from t where ^u.a = 1", "update t set a = ^c", "update t set a = ^u.a", "update t set a = 1 where ^c",
	)
	wantRows(t, b, "select t.a, u.a, b, c from t, u where t.a = u.a", 4, "2 2 null true|")
	wantRows(t, b, "select v.a, t.a from t v, u t where v.b is null", 2, "2 2|2 3|")
	wantErrors(t, b, api.ErrName, "select u.a, ^t.b from t u, w t")
	wantChange(t, b, "delete from t where t.a = 2", 1)
	wantChange(t, b, "update t set a = t.a + a where t.b = 'x'", 2)
}

// TestWidths (P5): what must have as many columns as something else.
func TestWidths(t *testing.T) {
	wantErrors(t, shop(t), api.ErrWidth,
		"select ^*", "select distinct ^*", "select ^* where true", "insert into t select ^*",
		"insert into t values ^(1)", "insert into t values ^(1, 'x', 2)", "insert into t values (1, 'x'), ^(1), (1, 'x', 2)", "insert into none values ^(1, 2)",
		"insert ^into t select 1", "insert ^into t select 1, 'x', 2", "insert ^into t select a from t", "insert ^into none select * from t", "insert ^into t select * from t, t v", "insert ^into t (select 1)",
	)
}

// operands are exprs of each type, over the table w.
func operands() map[string][]string {
	return map[string][]string{
		"int":  {"1", "i", "w.i", "-i", "1 + 1", "null + null", "- null", "(i)", "coalesce(null, i)", "case when p then null else 1 end", "(select 1)", "(select i)", "((select null union select i from w v))"},
		"text": {"'x'", "s", "w.s", "('x')", "coalesce(null, null, s)", "case when null then 'x' end", "(select s)", "(select 'x' union select null)", "(select v.s from w v)"},
		"bool": {"true", "false", "p", "(i = 1)", "(null = null)", "(not null)", "(null and null)", "(null or null)", "(s is null)", "(null is not null)", "coalesce(p, null)", "case when p then p when p then null end", "exists (select 1)", "(i in (select i))", "(null not in (select null))", "(select p)"},
		"none": {"null", "(null)", "coalesce(null, null)", "case when true then null else null end", "case when null then null end", "(select null)", "((select null) union select null)", "(select null from w)"},
	}
}

// fitting tells whether an operand of a type goes with a sign that wants some type.
func fitting(operand, wanted string) bool {
	return operand == wanted || operand == "none" || wanted == "none"
}

// wantTyped wants ErrType at the mark, or nothing wrong.
func wantTyped(t *testing.T, b *Base, text string, ok bool) {
	t.Helper()
	if !ok {
		wantErrors(t, b, api.ErrType, text)
		return
	}
	src, _ := marked(text)
	if got := b.Exec(src); got.Err != api.OK {
		t.Errorf("Exec(%q) = %v", src, got)
	}
}

// TestTwoOperands (P5): each sign between operands of each two types.
func TestTwoOperands(t *testing.T) {
	b := shop(t)
	for leftType, lefts := range operands() {
		for rightType, rights := range operands() {
			for i := range max(len(lefts), len(rights)) {
				left, right := lefts[i%len(lefts)], rights[i%len(rights)]
				for _, sign := range strings.Fields("+ - * /") {
					wantTyped(t, b, "select ("+left+") ^"+sign+" ("+right+") from w", fitting(leftType, "int") && fitting(rightType, "int"))
				}
				for _, sign := range strings.Fields("= <> < <= > >=") {
					wantTyped(t, b, "select ("+left+") ^"+sign+" ("+right+") from w", fitting(leftType, rightType))
				}
				for _, sign := range strings.Fields("and or") {
					wantTyped(t, b, "select ("+left+") ^"+sign+" ("+right+") from w", fitting(leftType, "bool") && fitting(rightType, "bool"))
				}
				wantTyped(t, b, "select ^coalesce("+left+", "+right+") from w", fitting(leftType, rightType))
				wantTyped(t, b, "select case when true then "+left+" ^else "+right+" end from w", fitting(leftType, rightType))
				wantTyped(t, b, "select case when true then "+left+" when true ^then "+right+" end from w", fitting(leftType, rightType))
			}
		}
	}
}

// TestOneOperand (P5): what takes one operand, of each type; and what a column takes.
func TestOneOperand(t *testing.T) {
	for operandType, list := range operands() {
		for _, e := range list {
			b := shop(t)
			isInt, isText, isBool := fitting(operandType, "int"), fitting(operandType, "text"), fitting(operandType, "bool")
			wantTyped(t, b, "select ^- ("+e+") from w", isInt)
			wantTyped(t, b, "select ^not ("+e+") from w", isBool)
			wantTyped(t, b, "^select ("+e+") is null, ("+e+") is not null from w", true)
			wantTyped(t, b, "select 1 from w ^where "+e, isBool)
			wantTyped(t, b, "select case ^when "+e+" then 1 end from w", isBool)
			wantTyped(t, b, "select case when true then 1 ^when "+e+" then 1 end from w", isBool)
			wantTyped(t, b, "insert ^into w select "+e+", null, null from w", isInt)
			wantTyped(t, b, "insert ^into w select 1, "+e+", null from w", isText)
			wantTyped(t, b, "insert ^into w select 1, null, "+e+" from w", isBool)
			wantTyped(t, b, "update w set i ^= "+e, isInt)
			wantTyped(t, b, "update w set i = 1, s ^= "+e, isText)
			wantTyped(t, b, "update w set i = 1, s = null, p ^= "+e+" where p", isBool)
			wantTyped(t, b, "delete from w ^where "+e, isBool)
		}
	}
}

// TestRowTypes (P5): a row of an insert against its table's columns.
func TestRowTypes(t *testing.T) {
	b := shop(t)
	wantErrors(t, b, api.ErrType,
		"insert into w values ^('x', 'x', true)", "insert into w values ^(1, 1, true)", "insert into w values ^(1, 'x', 1)", "insert into w values (null, null, null), ^(1, true, true), ('x', 1, 1)", "insert into w values ^(1, 'x', null + 1)",
	)
	wantChange(t, b, "insert into w values (null, null, null), (null + null, coalesce(null), not null)", 2)
}

// TestFirstWrong (P5): of several wrong things the first counts, in the order
// in which a statement is gone through.
func TestFirstWrong(t *testing.T) {
	b := shop(t)
	wantErrors(t, b, api.ErrName,
		// what stands behind from, then the exprs, then where; and a part ahead of the whole
		"select y from ^x where z", "select 1 + 'x' from ^x", "select 1 + 'x' from t, ^t", "select * from ^x where 1", "select ^y from t where z", "select ^y, 1 + 'x' from t", "select 'x' + ^y from t", "select ^y + 'x' from t", "select - ^y from t", "select not (1 = ^y) from t", "select coalesce(1, 'x', ^y) from t",
		"select case when ^y then 1 + 'x' end from t", "select case when true then 1 else ^y end + 'x' from t", "select case when true then 1 when ^y then 'x' end from t", "select 1 from t where ^y + 1 = 'x'",
		// the table ahead of the rest, a row's exprs ahead of the row
		"insert into ^x values (y)", "insert into ^x select 1 + 'x'", "insert into t values (^y)", "insert into t values (1, 2, ^y)", "insert into t select ^y", "insert into t select 1 from ^x",
		"delete from ^x where 1", "update ^x set y = z", "update t set ^y = 1 + 'x'", "update t set a = ^y, a = 1", "update t set a = 1, ^a = 'x'", "update t set b = ^y + 1", "update t set ^y = 1 where 1", "create table ^t (a int, a int)",
	)
	wantErrors(t, b, api.ErrType,
		"select 1 ^+ 'x', y from t", "select 1 ^+ 'x' from t where y", "select 1 ^+ 'x' + y from t", "select 1 ^+ 'x' = y from t", "select ^coalesce(1, 'x') + y from t",
		"select case ^when 1 then y end from t", "select case when true then 1 ^+ 'x' when y then 1 end from t", "select case when true then 1 when true ^then 'x' when y then 1 end from t", "select case when true then 1 when true ^then 'x' else y end from t", "select case ^when 1 then 'x' else 1 end",
		"insert into t values ^('x', 'x'), (y)", "insert into t values (1 ^+ 'x')", "insert into t values ^(1, 1), (1)", "insert into t select 1 ^+ 'x'",
		"update t set a ^= 'x', y = 1", "update t set a ^= 'x', b = y", "update t set a ^= 'x', a = 1", "update t set a ^= 'x' where y", "update t set b = 1 ^+ 'x'", "update t set a = 1 ^where 1",
		"select (1 ^= 'x') + 1", "select (1 ^+ 'x') and 2", "select not 1 ^= 'x'", "select 1 ^where 1", "select - (1 ^+ 'x')", "select 1 + 'y' ^* 'z'", "select 1 ^and 2 or 3", "select true or 1 ^and 2",
	)
	wantErrors(t, b, api.ErrWidth,
		"select ^* where y", "select ^* where 1", "insert into t values ^(1), (y)", "insert into t values ^('x'), (1)", "insert ^into t select 'x'", "insert into t values ^(true, true, true)", "insert into t select ^* where 1",
	)
}
