package satchel

import (
	"testing"

	"satchel/api"
)

// TestSelect (P9): the rows of one table, those of which where is true, in order.
func TestSelect(t *testing.T) {
	b := shop(t)
	wantRows(t, b, "select * from t", 2, "1 'x'|1 'x'|2 null|")
	wantRows(t, b, "select * from none", 1, "")
	wantRows(t, b, "select x, x, 1 from none", 3, "")
	wantRows(t, b, "select b, a, b from t", 3, "null 2 null|'x' 1 'x'|'x' 1 'x'|")
	wantRows(t, b, "select 0 - a from t", 1, "-2|-1|-1|")
	wantRows(t, b, "select 5 from t", 1, "5|5|5|")
	wantRows(t, b, "select a from t where true", 1, "1|1|2|")
	wantRows(t, b, "select a from t where false", 1, "")
	wantRows(t, b, "select a from t where null", 1, "")
	wantRows(t, b, "select a from t where b = 'x'", 1, "1|1|")
	wantRows(t, b, "select a from t where not b = 'x'", 1, "")
	wantRows(t, b, "select a from t where b = 'x' or b is null", 1, "1|1|2|")
	wantRows(t, b, "select t.a from t where t.a > 1", 1, "2|")
	wantRows(t, b, "select v.a + a from t v where v.b is null", 1, "4|")
	wantRows(t, b, "(select a from t)", 1, "1|1|2|")
	wantRows(t, b, "((select * from u))", 2, "2 true|3 null|")
	wantRows(t, b, "select * from w", 3, "5 'five' true|")
}

// TestNoFrom (P9): without from there is one row, if where is true.
func TestNoFrom(t *testing.T) {
	b := shop(t)
	wantRows(t, b, "select 1", 1, "1|")
	wantRows(t, b, "select 7, 'x', true, null, false, -1", 6, "7 'x' true null false -1|")
	wantRows(t, b, "select 1 where 1 = 1", 1, "1|")
	wantRows(t, b, "select 1, 2 where false", 2, "")
	wantRows(t, b, "select 1 where null", 1, "")
	wantRows(t, b, "select distinct 1", 1, "1|")
}

// TestSeveral (P9): each way to take one row of each table.
func TestSeveral(t *testing.T) {
	b := shop(t)
	wantRows(t, b, "select * from t, u", 4, "1 'x' 2 true|1 'x' 2 true|1 'x' 3 null|1 'x' 3 null|2 null 2 true|2 null 3 null|")
	wantRows(t, b, "select * from u, t", 4, "2 true 1 'x'|2 true 1 'x'|2 true 2 null|3 null 1 'x'|3 null 1 'x'|3 null 2 null|")
	wantRows(t, b, "select v.a, t.a from t, t v where v.a < t.a", 2, "1 2|1 2|")
	wantRows(t, b, "select b, c from t, u where t.a = u.a", 2, "null true|")
	wantRows(t, b, "select 1 from t, u, w", 1, "1|1|1|1|1|1|")
	wantRows(t, b, "select 1 from t, none", 1, "")
	wantRows(t, b, "select * from none, t, u", 5, "")
	wantRows(t, b, "select * from none, none m", 2, "")
	wantRows(t, b, "select p.a, q.a, r.a from u p, u q, u r where p.a + q.a + r.a = 7", 3, "2 2 3|2 3 2|3 2 2|")
	wantRows(t, b, "select i, t.a, c from w, t, u where i = t.a + u.a", 3, "5 2 null|")
}

// TestDistinct (P9): each row once; a null is the same as a null.
func TestDistinct(t *testing.T) {
	b := shop(t)
	wantRows(t, b, "select distinct * from t", 2, "1 'x'|2 null|")
	wantRows(t, b, "select distinct a from t", 1, "1|2|")
	wantRows(t, b, "select distinct null, null from t", 2, "null null|")
	wantRows(t, b, "select distinct 1 from t, u", 1, "1|")
	wantRows(t, b, "select distinct 1 from none", 1, "")
	wantRows(t, b, "select distinct t.a, c from t, u", 2, "1 null|1 true|2 null|2 true|")
	wantChange(t, b, "insert into t values (null, null), (null, null), (null, 'x'), (1, null)", 4)
	wantRows(t, b, "select distinct * from t", 2, "null null|null 'x'|1 null|1 'x'|2 null|")
}

// TestOrder (P9): rows are in order, by their first values, then their second ones.
func TestOrder(t *testing.T) {
	b := baseWith(t, "create table t (n int, s text, p bool)",
		"insert into t values (10, 'b', true), (9, 'b', false), (-9223372036854775807 - 1, null, null), (9223372036854775807, '', true), (null, 'z', true), (0, 'a', null), (-1, 'a', false)",
		"insert into t values (0, 'B', true), (0, 'ab', true), (0, '\xff', true), (0, '\x00', true), (0, '', true), (0, null, true)")
	wantRows(t, b, "select n from t where s <> 'B' and p", 1, "null|0|0|0|0|10|9223372036854775807|")
	wantRows(t, b, "select n from t where n <> 0 or n is null", 1, "null|-9223372036854775808|-1|9|10|9223372036854775807|")
	wantRows(t, b, "select distinct s from t", 1, "null|''|'\x00'|'B'|'a'|'ab'|'b'|'z'|'\xff'|")
	wantRows(t, b, "select distinct p from t", 1, "null|false|true|")
	wantRows(t, b, "select distinct p, n from t where s = 'a' or s = 'b'", 2, "null 0|false -1|false 9|true 10|")
	wantRows(t, b, "select distinct n, p from t where s = 'a' or s = 'b' or s is null", 2, "-9223372036854775808 null|-1 false|0 null|0 true|9 false|10 true|")
}

// TestOwnMemory (P2): what came out is its owner's.
func TestOwnMemory(t *testing.T) {
	b := shop(t)
	for _, src := range []string{"select * from t", "select a, b from t", "select distinct b, a from t", "select * from t, u", "select 1, 'x' from t, u v", "select * from t union all select * from t", "select * from t union select 1, 'x'", "select * from t except all select 1, 'x'", "select * from t except select 5, null", "select * from t intersect all select * from t", "select * from t intersect select * from t", "select a, (select b) from t"} {
		before, others := rowsShown(b.Exec(src).Rows), everything(b)
		kept, spoilt := b.Exec(src), b.Exec(src)
		for i, row := range spoilt.Rows {
			rest := row[:cap(row)]
			for j := range rest {
				rest[j] = api.Value{Kind: api.Text, S: "spoilt"}
			}
			for _, next := range spoilt.Rows[i+1:] {
				if next[0].S == "spoilt" {
					t.Errorf("%s: rows share memory", src)
				}
			}
		}
		all := spoilt.Rows[:cap(spoilt.Rows)]
		clear(all)
		if rowsShown(kept.Rows) != before || rowsShown(b.Exec(src).Rows) != before || everything(b) != others {
			t.Errorf("%s: what came out or comes out is changed through another's rows", src)
		}
		wantChange(t, b, "update t set a = 50, b = 'later'", 3)
		wantChange(t, b, "delete from u", 2)
		if rowsShown(kept.Rows) != before {
			t.Errorf("%s: what came out is changed by later statements", src)
		}
		b = shop(t)
	}
}

// TestBases (P2): bases have nothing to do with one another.
func TestBases(t *testing.T) {
	b, c := shop(t), shop(t)
	wantChange(t, b, "begin", 0)
	wantChange(t, b, "drop table t", 0)
	wantChange(t, b, "delete from u", 2)
	wantError(t, c, "rollback", api.ErrState, 0)
	if everything(c) != everything(shop(t)) {
		t.Error("a base is changed through another one")
	}
	wantErrors(t, New(), api.ErrName, "select * from ^u")
}

// TestSameRows (P2): the same statements have the same answers.
func TestSameRows(t *testing.T) {
	b := shop(t)
	first := b.Exec("select * from t, u, w")
	for range 20 {
		if got := b.Exec("select * from t, u, w"); rowsShown(got.Rows) != rowsShown(first.Rows) {
			t.Error("the same query has other rows", rowsShown(got.Rows))
		}
	}
}
