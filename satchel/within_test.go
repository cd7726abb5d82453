package satchel

import (
	"runtime"
	"testing"
	"time"

	"satchel/api"
)

// TestIn (P8): in and not in, of what is known, unknown and not there.
func TestIn(t *testing.T) {
	wantValues(t,
		"1 in (select 1)", "true", "1 in (select 2)", "false", "1 in (select null)", "null", "null in (select 1)", "null", "null in (select null)", "null",
		"1 in (select 1 where false)", "false", "null in (select 1 where false)", "false", "null in (select null where false)", "false",
		"1 in (select 2 union select 1)", "true", "1 in (select null union select 1)", "true", "1 in (select null union select 2)", "null", "1 in (select 3 union select 2)", "false", "null in (select 1 union select 2)", "null",
		"'' in (select null)", "null", "'' in (select '')", "true", "0 in (select null)", "null", "false in (select null)", "null", "false in (select false)", "true", "false in (select true)", "false", "'x' in (select 'xx')", "false",
		"1 not in (select 1)", "false", "1 not in (select 2)", "true", "1 not in (select null)", "null", "null not in (select 1)", "null", "null not in (select 1 where false)", "true", "1 not in (select null union select 1)", "false", "1 not in (select null union select 2)", "null",
		"1 + 1 in (select 2)", "true", "not 1 in (select 1)", "false", "not 1 not in (select 1)", "true", "1 in (select 1) and 2 in (select 2)", "true", "1 in ((select 1))", "true", "(1 in (select 1)) = true", "true", "(1 in (select null)) is null", "true",
	)
	b := shop(t)
	wantRows(t, b, "select a, a in (select a from t), a not in (select a from t), 'x' in (select b from t), 'y' in (select b from t) from u", 5, "2 true false true null|3 false true true null|")
}

// TestExists (P8): whether there is a row, whatever is in it.
func TestExists(t *testing.T) {
	wantValues(t,
		"exists (select 1)", "true", "exists (select null)", "true", "exists (select false)", "true", "exists (select 1, 2)", "true", "exists (select 1 where false)", "false", "exists (select 1 where null)", "false", "not exists (select 1)", "false",
		"exists (select 1 union all select 1)", "true", "exists (select 1 except select 1)", "false", "exists ((select 1))", "true", "exists (select 1) = false", "false",
	)
	b := shop(t)
	wantRows(t, b, "select exists (select * from t), exists (select * from none), exists (select * from t where a > 2), exists (select * from t, none)", 4, "true false false false|")
}

// TestQueryValue (P8): the value of just one row.
func TestQueryValue(t *testing.T) {
	wantValues(t,
		"(select 1)", "1", "(select null)", "null", "(select 1 where false)", "null", "(select 1 union all select 1)", "null", "(select 1 union select 1)", "1", "(select 1 union select 2)", "null", "((select 'x'))", "'x'", "(((select true) union select true))", "true",
		"(select 1) + (select 2)", "3", "-(select 1)", "-1", "(select 1) is null", "false", "(select 1 where false) is null", "true", "coalesce((select 1 where null), (select 5))", "5", "case when (select true) then (select 'y') end", "'y'", "(select (select (select 7) + 1) + 1)", "9", "(select 1) in (select 1)", "true", "(select 1) = (select 2)", "false",
	)
	b := shop(t)
	wantRows(t, b, "select (select a from t), (select a from t where b is null), (select distinct a from t where b = 'x'), (select x from none)", 4, "null 2 1 null|")
	wantRows(t, b, "select (select i from w) + a from u", 1, "7|8|")
}

// TestOutside (P9): a query within looks at the rows that are taken outside.
func TestOutside(t *testing.T) {
	b := shop(t)
	wantRows(t, b, "select a, (select c from u where u.a = t.a) from t", 2, "1 null|1 null|2 true|")
	wantRows(t, b, "select a from t where exists (select 1 from u where u.a = t.a)", 1, "2|")
	wantRows(t, b, "select a from t where not exists (select 1 from u where u.a = t.a)", 1, "1|1|")
	wantRows(t, b, "select a from t where a in (select a from u)", 1, "2|")
	wantRows(t, b, "select a from u where a not in (select a from t)", 1, "3|")
	wantRows(t, b, "select a from t where 'x' in (select b)", 1, "1|1|")
	wantRows(t, b, "select a, (select a), (select t.a + 1 where b = 'x') from t", 3, "1 1 2|1 1 2|2 2 null|")
	wantRows(t, b, "select t.a, u.a from t, u where exists (select 1 from w where i = t.a + u.a)", 2, "2 3|")
	wantRows(t, b, "select (select v.a from t v, u x where v.a = t.a and x.a = u.a and v.b is null) from t, u", 1, "null|null|null|null|2|2|")
	wantRows(t, b, "select case when exists (select 1 from u where u.a = t.a) then 'in u' else b end from t", 1, "'in u'|'x'|'x'|")
	wantRows(t, b, "select a from t where a = (select 3 - a) or b in (select 'y' union select b)", 1, "1|1|")
	wantRows(t, b, "select distinct (select a + v.a from u where c) from t v", 1, "3|4|")
}

// TestInnermost (P5, P9): a name means a column of the innermost select that has
// it; another name reaches further out.
func TestInnermost(t *testing.T) {
	b := shop(t)
	wantRows(t, b, "select a from t where exists (select 1 from u where a = 3)", 1, "1|1|2|")
	wantRows(t, b, "select a from t where exists (select 1 from u where a = 2 and b is null)", 1, "2|")
	wantRows(t, b, "select t.a from t where exists (select a from u where a = 3 and t.a = 1)", 1, "1|1|")
	// the same name, of another table, or of the same one once more
	wantRows(t, b, "select t.a, (select t.i from w t) from t", 2, "1 5|1 5|2 5|")
	wantRows(t, b, "select a, (select t.a from t where t.a = 2) from t", 2, "1 2|1 2|2 2|")
	wantRows(t, b, "select v.a, (select distinct v.a + t.a from u v where v.a = 3) from t, u v where t.a = 2", 2, "2 5|3 5|")
	// what two tables have outside is no matter where one inside has it
	wantRows(t, b, "select (select a from t where b is null) from t, u v where b is null", 1, "2|2|")
	wantRows(t, b, "select distinct (select a from u x where a = 3) from t, u v", 1, "3|")
	// out of several queries, some of them without from
	wantRows(t, b, "select a from t where exists (select 1 from u where exists (select 1 from w where i = t.a + u.a))", 1, "2|")
	wantRows(t, b, "select a, (select (select (select b))) from t", 2, "1 'x'|1 'x'|2 null|")
	wantRows(t, b, "select a, (select c from u where exists (select 1 where exists (select i where a = t.a and p))) from t, w", 2, "1 null|1 null|2 true|")
	wantRows(t, b, "select i, (select (select t.a + u.a + i where b is null) from t, u where b is null and c) from w", 2, "5 9|")
	wantRows(t, b, "select (select a from u where a > (select i - 3 from w where a = 3)) from none, t", 1, "")
	wantRows(t, b, "select (select a from u where a > (select i - 3 from w where a = 3)) from w v", 1, "3|")
	// on both sides of a union
	wantRows(t, b, "select a from t where 2 in (select a from u where c and b is null union all select 3 where b is null)", 1, "2|")
	wantRows(t, b, "select a, exists (select b except select 'x') from t", 2, "1 false|1 false|2 true|")
}

// TestMeaningsWithin (P5): a name in a query within that means nothing, or too much.
func TestMeaningsWithin(t *testing.T) {
	wantErrors(t, shop(t), api.ErrName,
		"select (select ^b)", "select (select ^b from u)", "select (select ^x from u) from t", "select 1 from t where exists (select 1 where ^c)", "select exists (select 1 from u where ^b = 'x')",
		"select (select ^t.a)", "select (select ^w.i from u) from t", "select (select 1 from t), ^a", "select ^a in (select a from t)", "select exists (select a from t) and ^c",
		// too many of the first select that has any
		"select (select ^a from t, u v)", "select (select ^a from t, u v) from w", "select (select ^a from t, u v) from none, u x", "select (select ^a) from t, u", "select (select (select ^a) from w) from t, u", "select (select ^a from w) from t, u", "select (select (select ^a from w) from t x, t y) from u",
		// the innermost table that is called so has no such column
		"select (select ^t.a from w t) from t", "select (select ^t.b from u t) from t", "select (select (select ^t.b) from u t) from t", "select (select (select ^t.b from w) from u t) from t", "select (select ^t.x from t) from none t",
		// it is around its own select only
		"select (select 1 from u v), ^v.a from t", "select 1 from t where exists (select 1 from u v) and ^v.a = 1", "select (select a from t union select ^b)", "select (select 1 from t union select ^t.a)", "(select a from t) union select ^a",
		"select 1 from t where a in (select a from u x where ^y.a = 1)",
		"select exists (select 1 from ^x)", "select (select 1 from t, ^t) from t", "select a in (select 1 from t v, u ^v) from t", "select (select 1 from ^a) from t a",
		"insert into t values ((select ^a), 'x')", "insert into t values (1, (select ^t.b))", "insert into t values ((select 1), (select b from ^x))", "insert into t select a, (select ^b) from u", "insert into t select (select ^t.a), 'x'",
		"update t set a = (select ^c)", "update t set a = (select ^u.c from t u)", "update t set a = (select ^x.a from t u)", "update t set a = 1 where exists (select ^i from u)", "update t set a = (select 1 from ^x)", "update t set a = (select 1), ^a = 1",
		"delete from t where exists (select ^c)", "delete from t where b in (select ^t.b from u t)", "delete from t where a in (select ^x)", "delete from t where a in (select 1 from ^x)", "delete from t where exists (select ^a from u, u v)",
	)
}

// TestWidthsWithin (P5): of in, and of a query by itself, there is one column.
func TestWidthsWithin(t *testing.T) {
	b := shop(t)
	wantErrors(t, b, api.ErrWidth,
		"select 1 ^in (select 1, 2)", "select 1 not ^in (select 1, 2)", "select a ^in (select * from u) from t", "select a not ^in (select * from u) from t", "select 1 ^in ((select 1, 2))", "select 1 ^in (select 1, 2 union select 3, 4)", "select not 1 ^in (select 1, 2)",
		"select ^(select 1, 2)", "select ^(select * from t)", "select ^((select 1, 2))", "select ^(((select * from t)))", "select 1 + ^(select 1, 2)", "select ^((select 1, 2) union select 3, 4)", "select ^(select 1, 'x') from t", "select (1 + ^(select 1, 2))", "select coalesce(1, ^(select 1, 2))",
		"select (select ^*)", "select (select ^*) from t", "select exists (select ^*) from t", "select 1 in (select ^*) from t",
		"insert into t values (^(select * from t), 'x')", "insert into t values (1 ^in (select 1, 2), 'x')", "insert into t values ^((select 1))", "insert into t values ^(1, 'x', (select 1))", "insert into none values ^((select 1), (select 2))",
		"update t set a = ^(select * from t u)", "update t set a = 1 where a ^in (select * from u)", "update t set a = (select ^*)", "delete from t where ^(select true, false)", "delete from t where a not ^in (select * from t)",
	)
	wantRows(t, b, "select exists (select * from t, u), exists (select 1, 2, 3), 5 in (select i from w), 1 in (select * from none)", 4, "true true true false|")
}

// TestTypesWithin (P5): of in the operand and the column fit; a query by itself is
// of its column's type.
func TestTypesWithin(t *testing.T) {
	b := shop(t)
	wantErrors(t, b, api.ErrType,
		"select 1 ^in (select 'x')", "select 1 not ^in (select 'x')", "select 'x' ^in (select a from t)", "select b ^in (select a from u) from t", "select true ^in (select 1)", "select not 1 ^in (select true)", "select 1 ^in (select null union select 'x')", "select (1 in (select 1)) ^+ 1", "select exists (select 1) ^= 1", "select exists (select 1) ^+ 1", "select - 1 + 2 ^in (select 'x')",
		"select (select 'x') ^+ 1", "select (select a from t) ^= 'x'", "select 1 ^= (select b from t)", "select (select 1) ^and true", "select ^not (select 'x')", "select ^- (select 'x')", "select ^coalesce(1, (select 'x'))", "select 1 ^where (select 1)", "select case ^when (select 1) then 1 end", "select case when true then 1 ^else (select 'x') end", "select ^coalesce((select null), 1, (select b from t))", "select (select (select 'x')) ^+ 1", "select (select b) ^+ 1 from t", "select (select null union select 'x') ^+ 1",
		"insert into t values ^((select 'x'), 'x')", "insert into t values ^(1, (select 1))", "insert into t values ^(exists (select 1), 'x')", "insert into t values (1, 'x'), ^(1 in (select 1), 'x')", "insert ^into t select (select 'x'), 'x'",
		"update t set a ^= (select 'x')", "update t set a ^= (select b)", "update t set a ^= exists (select 1)", "update t set a = 1 ^where (select 1)", "delete from t ^where (select a)", "delete from t where b ^in (select 1)", "delete from t ^where (select 1)",
	)
	wantChange(t, b, "insert into w values ((select null), (select null), (select null)), ((select 1), (select 'x'), 1 in (select null))", 2)
	wantRows(t, b, "select null in (select 1), 1 in (select null), null in (select 'x' where false), (select null) + 1, (select null) = 'x', not (select null)", 6, "null null false null null null|")
}

// TestFirstWrongWithin (P5): the operand of an in, then its query, then the in; a
// query's parts ahead of what it stands in.
func TestFirstWrongWithin(t *testing.T) {
	b := shop(t)
	wantErrors(t, b, api.ErrName,
		"select ^x in (select y)", "select 1 in (select ^y, 2)", "select 'x' in (select 1 where ^y)", "select (select 1, ^y)", "select (select 1 from ^x) + 'x'", "select 1 + (select 'x' where ^y)", "select (select 1 where ^y), 1 + 'x'", "select 1 from t where exists (select 1 from ^x) + 1", "select (select y from ^x where z)", "select y from ^x where exists (select 1 from z)", "select (select ^y) from t where exists (select 1 from z)",
		"insert into ^x values ((select y))", "insert into t values ((select ^y))", "update ^x set a = (select y)", "update t set ^x = (select y)", "update t set a = (select ^y), b = 1", "delete from ^x where exists (select y)",
	)
	wantErrors(t, b, api.ErrType,
		"select (1 ^+ 'x') in (select y)", "select (select 1 ^+ 'x', 2)", "select 1 in (select 1 ^+ 'x', 2)", "select (select 1 ^where 1), y", "select case ^when 1 then (select y) end", "update t set a ^= (select 'x') where exists (select y)", "insert into t values ^((select 'x'), 'x'), (y, z)", "select exists (select 1 ^+ 'x' where y)",
	)
	wantErrors(t, b, api.ErrWidth,
		"select 'x' ^in (select 1, 2)", "select ^(select 1, 2) + 'x'", "select ^(select 1, 2), y", "select (1 ^in (select 1, 2)) + 1", "select exists (select ^* where y)", "insert into t values (^(select 1, 2))",
	)
}

// TestProductWithin (P7): the tables of a from and of all selects around it, or of
// the update or delete, have at most 1000 rows, multiplied.
func TestProductWithin(t *testing.T) {
	b := New()
	filled(t, b, "a", 100)
	filled(t, b, "b", 10)
	filled(t, b, "c", 11)
	filled(t, b, "d", 0)
	filled(t, b, "e", 1)
	for _, src := range []string{
		"select 1 from a where exists (select 1 from c)", "select 1 from c where exists (select 1 from a)", "select (select 1 from c) from a", "select 1 in (select 1 from c) from a", "select 1 from b where exists (select 1 from b where exists (select 1 from c))", "select 1 from b, c where exists (select 1 from b)", "select 1 from b where exists (select 1 from b, c)", "select 1 from a where exists (select 1 where exists (select 1 from c))", "select exists (select 1 from a, c)", "select 1 from d where exists (select 1 from a, c)", "select 1 from d, a where exists (select 1 from c)", "select 1 from a where exists (select 1 from d where exists (select 1 from c))", "select 1 from a where false and exists (select 1 from c)", "select 1 from c where exists (select 1 from b union select 1 from a)", "select 1 from c where exists (select 1 from a except select 1 from b)", "select 1 union select 1 from a, c",
		"insert into d values ((select 1 from a, c))", "insert into d select (select 1 from c) from a",
		"update a set n = (select 1 from c)", "update a set n = 1 where exists (select 1 from c)", "update c set n = (select 1 from a where false)", "delete from a where exists (select 1 from c)", "delete from c where n in (select n from b where exists (select 1 from b x))", "delete from a where exists (select 1 where exists (select 1 from c))", "delete from d where exists (select 1 from a, c)",
	} {
		wantError(t, b, src, api.ErrMuch, 0)
	}
	wantErrors(t, b, api.ErrType, "select 1 from a where exists (select 1 from c) ^+ 1", "update a set n ^= exists (select 1 from c)")
	wantErrors(t, b, api.ErrName, "select (select 1 from c), ^x from a", "delete from a where exists (select 1 from c where ^x)")
	wantErrors(t, b, api.ErrWidth, "insert ^into d select 1, 2 from a where exists (select 1 from c)")
	for _, src := range []string{
		"select 1 from a where exists (select 1 from b)", "select (select 1 from a), (select 1 from a), (select 1 from a)", "select (select 1 from b) in (select 1 from b) from a", "select 1 from b where exists (select 1 from b where exists (select 1 from b))", "select 1 from a where exists (select 1 from d, e, b)", "select 1 from d where exists (select 1 from a, b)", "select 1 from a, b union all select 1 from a, b", "select 1 from c where exists (select 1 from b union select 1 from b x)",
		"update a set n = 1 where exists (select 1 from b where n = 1)", "delete from a where n in (select 1 from b)", "delete from d where exists (select 1 from a, b)",
	} {
		if got := b.Exec(src); got.Err != api.OK {
			t.Errorf("Exec(%q) = %d, %d", src, got.Err, got.At)
		}
	}
	// the table of an insert is not around
	wantChange(t, b, "insert into c values ((select distinct 5 from c, b)), ((select 6 from c x, b))", 2)
	wantRows(t, b, "select n from c where n <> 7 or n is null", 1, "null|5|")
	wantChange(t, b, "insert into c select 1 where exists (select 1 from a, b)", 1)
}

// TestInsertWithin (P10): a row's values may be those of queries, of the tables as they were.
func TestInsertWithin(t *testing.T) {
	b := shop(t)
	wantChange(t, b, "insert into t values ((select 3), 'y')", 1)
	wantChange(t, b, "insert into t values ((select a from u), (select s from w)), ((select a from u where c), case when exists (select * from none) then 'some' end)", 2)
	wantRows(t, b, "select * from t", 2, "null 'five'|1 'x'|1 'x'|2 null|2 null|3 'y'|")
	wantChange(t, b, "insert into none values ((select x from none)), ((select 1 where not exists (select * from none))), ((select 1 where not exists (select * from none)))", 3)
	wantRows(t, b, "select * from none", 1, "null|1|1|")
	wantChange(t, b, "insert into none select (select a from u where c) + a from u where a in (select a from t)", 2)
	wantRows(t, b, "select * from none", 1, "null|1|1|4|5|")
}

// TestUpdateWithin (P10): queries within see the row and all tables as they were.
func TestUpdateWithin(t *testing.T) {
	b := shop(t)
	wantChange(t, b, "update t set a = (select t.a + 1) where b = 'x'", 2)
	wantRows(t, b, "select * from t", 2, "2 null|2 'x'|2 'x'|")
	wantChange(t, b, "update u set a = a + 10, c = exists (select 1 from t where t.a = u.a)", 2)
	wantRows(t, b, "select * from u", 2, "12 true|13 false|")
	b = baseWith(t, "create table x (a int, b int)", "insert into x values (1, 2), (2, 3), (3, 1), (9, 9)")
	wantChange(t, b, "update x set a = (select v.b from x v where v.a = x.b), b = a where exists (select 1 from x v where v.b = x.a and v.a < 9)", 3)
	wantRows(t, b, "select * from x", 2, "1 2|2 3|3 1|9 9|")
	wantChange(t, b, "update x set b = (select x.a from x where x.a = 9) where a in (select b from x v where v.a = 2)", 1)
	wantRows(t, b, "select * from x", 2, "1 2|2 3|3 9|9 9|")
	wantChange(t, b, "update x set a = 0 where b = (select b from x v where v.a = x.a)", 4)
	wantChange(t, b, "update x set b = (select x.b from x) where exists (select x.b)", 4)
	wantRows(t, b, "select distinct * from x", 2, "0 null|")
}

// TestDeleteWithin (P10): each row is held against the table as it was.
func TestDeleteWithin(t *testing.T) {
	b := shop(t)
	wantChange(t, b, "delete from t where b in (select null)", 0)
	wantChange(t, b, "delete from t where a in (select a from u where false)", 0)
	wantChange(t, b, "delete from t where exists (select 1 from u where u.a = t.a)", 1)
	wantRows(t, b, "select * from t", 2, "1 'x'|1 'x'|")
	wantChange(t, b, "delete from t where exists (select 1 from t v where v.a = t.a and v.b = b)", 2)
	wantChange(t, b, "insert into t values (1, 'a'), (2, 'b'), (3, 'c')", 3)
	wantChange(t, b, "delete from t where a < (select a from t v where v.b = 'c')", 2)
	wantRows(t, b, "select * from t", 2, "3 'c'|")
	wantChange(t, b, "insert into t values (1, 'a'), (2, 'b'), (2, 'b')", 3)
	wantChange(t, b, "delete from t where not exists (select 1 from t v where v.a > t.a)", 1)
	wantChange(t, b, "delete from t where a not in (select a from t v where v.b = 'b')", 1)
	wantRows(t, b, "select * from t", 2, "2 'b'|2 'b'|")
}

// TestManyWithin (P1): a statement has room for many queries, each asked for 1000 rows, and for 16 in one another.
func TestManyWithin(t *testing.T) {
	b := New()
	filled(t, b, "a", 100)
	filled(t, b, "b", 10)
	for _, where := range []string{"170 = 0" + many("+(select 1)", 170), "7 = " + many("(select ", 16) + "a.n" + many(")", 16), "0 < " + many("(select ", 8) + "a.n" + many(" where a.n in (select b.n))", 8)} {
		got := b.Exec("select 1 from a, b where " + where)
		if got.Err != api.OK || len(got.Rows) != 1000 {
			t.Errorf("where %.80s: %d, %d, %d rows", where, got.Err, got.At, len(got.Rows))
		}
	}
}

// TestAllDone (P1): all that a call has begun has ended soon behind its answer.
func TestAllDone(t *testing.T) {
	before := runtime.NumGoroutine()
	b := shop(t)
	for _, src := range []string{"select (select a from t), exists (select 1 from t, t v, t x) from t", "delete from t where a in (select a from t v where exists (select a from u))", "select 1 in (select (select a from u) from t)"} {
		if got := b.Exec(src); got.Err != api.OK {
			t.Errorf("Exec(%q) = %v", src, got)
		}
	}
	for range 100 {
		if runtime.NumGoroutine() <= before {
			return
		}
		time.Sleep(time.Millisecond)
	}
	t.Errorf("%d are under way, and %d were before", runtime.NumGoroutine(), before)
}

// TestSameWithin (P2): the same query has the same rows each time, and beside others.
func TestSameWithin(t *testing.T) {
	const src = "select a, (select v.b from t v where v.a = t.a + 1), exists (select 1 from u where u.a = t.a), a in (select a from u union select 1) from t"
	const want = "1 null false true|1 null false true|2 null true true|"
	same := make(chan string)
	for range 4 {
		b := shop(t)
		go func() {
			for range 50 {
				if got := rowsShown(b.Exec(src).Rows); got != want {
					same <- got
					return
				}
			}
			same <- want
		}()
	}
	for range 4 {
		if got := <-same; got != want {
			t.Errorf("rows %s want %s", got, want)
		}
	}
}
