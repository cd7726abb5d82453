package satchel

import (
	"strings"
	"testing"

	"satchel/api"
)

// filled is a table of one column, with so many rows.
func filled(t *testing.T, b *Base, name string, rows int) {
	t.Helper()
	wantChange(t, b, "create table "+name+" (n int)", 0)
	for range rows / 10 {
		wantChange(t, b, "insert into "+name+" values (7)"+many(", (7)", 9), 10)
	}
	for range rows % 10 {
		wantChange(t, b, "insert into "+name+" values (7)", 1)
	}
}

// TestTables (P7): there are at most 8 tables, which another error comes ahead of.
func TestTables(t *testing.T) {
	b := New()
	for _, name := range strings.Fields("a b c d e f g h") {
		wantChange(t, b, "create table "+name+" (n int)", 0)
	}
	wantError(t, b, "create table i (n int)", api.ErrMuch, 0)
	wantError(t, b, "create table h (n int)", api.ErrName, 13)
	wantError(t, b, "create table i (n int, n int)", api.ErrName, 23)
	wantChange(t, b, "drop table c", 0)
	wantChange(t, b, "create table i (n int)", 0)
	wantError(t, b, "create table c (n int)", api.ErrMuch, 0)
}

// TestTableRows (P7): a table has at most 100 rows; an insert that would bring more brings none.
func TestTableRows(t *testing.T) {
	b := New()
	filled(t, b, "a", 99)
	wantError(t, b, "insert into a values (1), (1)", api.ErrMuch, 0)
	wantError(t, b, "insert into a select 1 from a", api.ErrMuch, 0)
	wantErrors(t, b, api.ErrType, "insert into a values (1), ^('x')")
	wantErrors(t, b, api.ErrWidth, "insert ^into a select 1, 1 from a")
	wantChange(t, b, "insert into a select 2 from a where false", 0)
	wantChange(t, b, "insert into a values (1)", 1)
	wantError(t, b, "insert into a values (1)", api.ErrMuch, 0)
	wantError(t, b, "insert into a select 1", api.ErrMuch, 0)
	wantChange(t, b, "insert into a select 1 where false", 0)
	wantChange(t, b, "update a set n = 3", 100)
	wantChange(t, b, "delete from a where n = 3", 100)
	filled(t, b, "b", 50)
	wantChange(t, b, "insert into b select n from b", 50)
	wantError(t, b, "insert into b select n from b", api.ErrMuch, 0)
	filled(t, b, "c", 0)
	wantError(t, b, "insert into c values (1)"+many(", (1)", 100), api.ErrMuch, 0)
	wantChange(t, b, "insert into c values (1)"+many(", (1)", 99), 100)
	filled(t, b, "d", 5)
	wantError(t, b, "insert into d select 1 from b, d", api.ErrMuch, 0)
	wantChange(t, b, "insert into d select distinct 1 from b, d", 1)
}

// TestProduct (P7): the tables behind a from have at most 1000 rows, multiplied,
// whatever where leaves of them.
func TestProduct(t *testing.T) {
	b := New()
	filled(t, b, "a", 100)
	filled(t, b, "b", 10)
	filled(t, b, "c", 11)
	filled(t, b, "d", 0)
	filled(t, b, "e", 91)
	filled(t, b, "f", 2)
	filled(t, b, "g", 1)
	for _, from := range []string{"a, b", "b, a", "b, b v, b w", "a, b, g, g v"} {
		if got := b.Exec("select 1 from " + from); got.Err != api.OK || len(got.Rows) != 1000 {
			t.Errorf("from %s: %d, %d rows", from, got.Err, len(got.Rows))
		}
	}
	for _, from := range []string{"a, b, d", "d, b, a", "a, d, d v, b", "d, d v, d w"} {
		wantRows(t, b, "select 1 from "+from, 1, "")
	}
	// 11 times 91 is 1001
	for _, from := range []string{"c, e", "e, c", "a, c", "c, a", "a, a v", "d, a, c", "a, d, c", "a, c, d", "a, b, f", "f, b, a", "b, b v, b w, f", "g, e, c, g v"} {
		wantError(t, b, "select 1 from "+from, api.ErrMuch, 0)
		wantError(t, b, "select 1 from "+from+" where false", api.ErrMuch, 0)
		wantError(t, b, "select distinct 1 from "+from, api.ErrMuch, 0)
		wantError(t, b, "insert into d select 1 from "+from+" where false", api.ErrMuch, 0)
		wantErrors(t, b, api.ErrType, "select 1 ^+ 'x' from "+from, "select 1 from "+from+" ^where 1")
		wantErrors(t, b, api.ErrName, "select ^x from "+from, "select 1 from "+from+", ^x")
		wantErrors(t, b, api.ErrWidth, "insert ^into d select 1, 1 from "+from)
	}
}

// aliased is a table as often as fits into a statement, by another name each time.
func aliased(table string, count int) string {
	var list []string
	for i := range count {
		list = append(list, table+" z"+string(rune('a'+i/26))+string(rune('a'+i%26)))
	}
	return strings.Join(list, ",")
}

// TestManyTables (P1, P7): the product may be greater than any number, or the
// tables so many that a statement has no room for more.
func TestManyTables(t *testing.T) {
	b := New()
	filled(t, b, "f", 2)
	filled(t, b, "g", 1)
	for _, count := range []int{10, 31, 32, 33, 63, 64, 65, 128, 300} {
		wantError(t, b, "select 1 from "+aliased("f", count), api.ErrMuch, 0)
	}
	wantRows(t, b, "select distinct 1 from "+aliased("f", 9), 1, "1|")
	wantRows(t, b, "select * from "+aliased("g", 320), 320, strings.TrimSuffix(many("7 ", 320), " ")+"|")
	wantRows(t, b, "select distinct zma.n from "+aliased("g", 320)+", f, f v, f w", 1, "7|")
}

// TestStates (P6): a transaction begins where there is none, and ends where there is one.
func TestStates(t *testing.T) {
	b := shop(t)
	for range 2 {
		for _, end := range []string{"commit", "rollback"} {
			wantError(t, b, "commit", api.ErrState, 0)
			wantError(t, b, "  rollback", api.ErrState, 0)
			wantChange(t, b, "begin", 0)
			wantError(t, b, "begin", api.ErrState, 0)
			wantError(t, b, "\n begin", api.ErrState, 0)
			wantErrors(t, b, api.ErrName, "drop table ^x")
			wantError(t, b, "begin", api.ErrState, 0)
			wantChange(t, b, end, 0)
		}
	}
	wantError(t, New(), "commit", api.ErrState, 0)
}
