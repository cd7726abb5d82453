package satchel

import (
	"testing"

	"satchel/api"
)

// TestCreateDrop (P10): a table comes without rows, and goes with them.
func TestCreateDrop(t *testing.T) {
	b := New()
	wantChange(t, b, "create table t (a int, b text, c bool, d int, e text, f bool)", 0)
	wantRows(t, b, "select * from t", 6, "")
	wantChange(t, b, "insert into t values (1, 'x', true, null, null, null)", 1)
	wantRows(t, b, "select f, c, e, b, d, a from t", 6, "null true null 'x' null 1|")
	wantErrors(t, b, api.ErrName, "create table ^t (z int)")
	wantChange(t, b, "drop table t", 0)
	wantErrors(t, b, api.ErrName, "select * from ^t", "drop table ^t", "insert into ^t values (1)")
	wantChange(t, b, "create table t (z bool)", 0)
	wantRows(t, b, "select z from t", 1, "")
	wantErrors(t, b, api.ErrName, "select ^a from t")
	wantChange(t, b, "create table u (z int)", 0)
	wantChange(t, b, "insert into u values (4)", 1)
	wantChange(t, b, "drop table t", 0)
	wantRows(t, b, "select * from u", 1, "4|")
}

// TestInsert (P10): rows come in as often as they are given, beside those that are there.
func TestInsert(t *testing.T) {
	b := shop(t)
	wantChange(t, b, "insert into none values (1)", 1)
	wantChange(t, b, "insert into none values (1), (1 + 1), (null), (7 / 0)", 4)
	wantRows(t, b, "select * from none", 1, "null|null|1|1|2|")
	wantChange(t, b, "insert into none values (9223372036854775807 + 1)", 1)
	wantRows(t, b, "select x from none where x < 0", 1, "-9223372036854775808|")
	wantChange(t, b, "insert into t select a, 'from u' from u", 2)
	wantRows(t, b, "select * from t", 2, "1 'x'|1 'x'|2 null|2 'from u'|3 'from u'|")
	wantChange(t, b, "insert into t select a + 10, b from t where a = 1", 2)
	wantChange(t, b, "insert into t select distinct a + 10, b from t where a > 10", 1)
	wantRows(t, b, "select * from t where a > 10", 2, "11 'x'|11 'x'|21 'x'|")
	wantChange(t, b, "insert into t (select 5, null)", 1)
	wantChange(t, b, "insert into t select * from t where false", 0)
	wantChange(t, b, "insert into w values (null, null, null), (1, '', false)", 2)
	wantRows(t, b, "select * from w", 3, "null null null|1 '' false|5 'five' true|")
	wantRows(t, b, "select * from u", 2, "2 true|3 null|")
}

// TestDelete (P10): those rows go of which where is true, each as often as it is there.
func TestDelete(t *testing.T) {
	b := shop(t)
	wantChange(t, b, "delete from t where null", 0)
	wantChange(t, b, "delete from t where false", 0)
	wantChange(t, b, "delete from t where not b = 'x'", 0)
	wantRows(t, b, "select * from t", 2, "1 'x'|1 'x'|2 null|")
	wantChange(t, b, "delete from t where b = 'x'", 2)
	wantRows(t, b, "select * from t", 2, "2 null|")
	wantChange(t, b, "delete from t where t.a = 1", 0)
	wantChange(t, b, "delete from t", 1)
	wantRows(t, b, "select * from t", 2, "")
	wantChange(t, b, "delete from t", 0)
	wantRows(t, b, "select * from u", 2, "2 true|3 null|")
	wantChange(t, b, "delete from u where c is null", 1)
	wantRows(t, b, "select * from u", 2, "2 true|")
}

// TestUpdate (P10): new values are reckoned from the row as it was.
func TestUpdate(t *testing.T) {
	b := shop(t)
	wantChange(t, b, "update t set a = a * 10, b = 'y' where b is null", 1)
	wantRows(t, b, "select * from t", 2, "1 'x'|1 'x'|20 'y'|")
	wantChange(t, b, "update t set b = null where not b = 'y'", 2)
	wantRows(t, b, "select * from t", 2, "1 null|1 null|20 'y'|")
	wantChange(t, b, "update t set a = 5 where b = 'x'", 0)
	wantChange(t, b, "update t set a = 5 where null", 0)
	wantChange(t, b, "update t set a = a", 3)
	wantChange(t, b, "update t set a = t.a + 1, b = case when a = 1 then 'was 1' else b end", 3)
	wantRows(t, b, "select * from t", 2, "2 'was 1'|2 'was 1'|21 'y'|")
	wantChange(t, b, "update t set a = null", 3)
	wantChange(t, b, "update none set x = 1", 0)
	wantRows(t, b, "select * from u", 2, "2 true|3 null|")
	b = baseWith(t, "create table x (a int, b int, c int)", "insert into x values (1, 2, 3), (4, 5, 6)")
	wantChange(t, b, "update x set c = a, a = b, b = c where a < b", 2)
	wantRows(t, b, "select * from x", 3, "2 3 1|5 6 4|")
	wantChange(t, b, "update x set a = b, b = a + b + c where c = 1", 1)
	wantRows(t, b, "select * from x", 3, "3 6 1|5 6 4|")
}

// TestRollback (P10): all tables are as they were at begin.
func TestRollback(t *testing.T) {
	b := shop(t)
	before := everything(b)
	for _, changes := range [][]string{
		{},
		{"insert into t values (9, 'new')"}, {"delete from t"}, {"update t set a = 0, b = 'changed'"}, {"drop table t"}, {"create table v (a int)"},
		{"drop table t", "create table t (z bool)", "insert into t values (true)"},
		{"insert into t values (9, 'new')", "update t set a = a + 1", "delete from t where a = 2", "insert into t select * from t", "drop table u", "create table x (a int)", "drop table w", "drop table none"},
	} {
		wantChange(t, b, "begin", 0)
		for _, src := range changes {
			if got := b.Exec(src); got.Err != api.OK {
				t.Fatalf("Exec(%q) = %v", src, got)
			}
		}
		if len(changes) > 0 && everything(b) == before {
			t.Errorf("%q change nothing in a transaction", changes)
		}
		wantErrors(t, b, api.ErrName, "select * from ^nowhere")
		wantChange(t, b, "rollback", 0)
		if got := everything(b); got != before {
			t.Errorf("behind %q and rollback: %s, and %s at begin", changes, got, before)
		}
	}
	first := New()
	wantChange(t, first, "begin", 0)
	wantChange(t, first, "create table t (a int)", 0)
	wantChange(t, first, "rollback", 0)
	wantErrors(t, first, api.ErrName, "drop table ^t")
}

// TestCommit (P10): what was done is there to stay, and a later rollback goes back to its own begin.
func TestCommit(t *testing.T) {
	b := shop(t)
	wantChange(t, b, "begin", 0)
	wantChange(t, b, "delete from t where a = 1", 2)
	wantChange(t, b, "commit", 0)
	wantRows(t, b, "select * from t", 2, "2 null|")
	wantError(t, b, "rollback", api.ErrState, 0)
	wantChange(t, b, "update t set b = 'between'", 1)
	wantChange(t, b, "begin", 0)
	wantChange(t, b, "drop table t", 0)
	wantChange(t, b, "rollback", 0)
	wantRows(t, b, "select * from t", 2, "2 'between'|")
	wantChange(t, b, "begin", 0)
	wantChange(t, b, "rollback", 0)
	wantChange(t, b, "insert into t values (3, 'z')", 1)
	wantRows(t, b, "select * from t", 2, "2 'between'|3 'z'|")
}
