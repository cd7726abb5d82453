package satchel

import (
	"reflect"
	"strconv"
	"strings"
	"testing"

	"satchel/api"
)

// baseWith is a base behind these statements, none of which is wrong.
func baseWith(t *testing.T, statements ...string) *Base {
	t.Helper()
	b := New()
	for _, src := range statements {
		if got := b.Exec(src); got.Err != api.OK {
			t.Fatalf("Exec(%.80q) = %v", src, got)
		}
	}
	return b
}

// shop is what most tests ask about: two tables that share a column's name, one
// with all types, and one without rows.
func shop(t *testing.T) *Base {
	t.Helper()
	return baseWith(t,
		"create table t (a int, b text)",
		"create table u (a int, c bool)",
		"create table w (i int, s text, p bool)",
		"create table none (x int)",
		"insert into t values (1, 'x'), (2, null), (1, 'x')",
		"insert into u values (2, true), (3, null)",
		"insert into w values (5, 'five', true)")
}

func cellShown(v api.Value) string {
	switch {
	case v == api.Value{}:
		return "null"
	case v == api.Value{Kind: api.Bool}:
		return "false"
	case v == api.Value{Kind: api.Bool, N: 1}:
		return "true"
	case v == api.Value{Kind: api.Int, N: v.N}:
		return strconv.FormatInt(v.N, 10)
	case v == api.Value{Kind: api.Text, S: v.S}:
		return "'" + v.S + "'"
	}
	return "no value"
}

// rowsShown has a bar behind each row, so that no rows differ from one row without cells.
func rowsShown(rows [][]api.Value) string {
	text := ""
	for _, row := range rows {
		var cells []string
		for _, v := range row {
			cells = append(cells, cellShown(v))
		}
		text += strings.Join(cells, " ") + "|"
	}
	return text
}

// wantRows wants a query's whole Result.
func wantRows(t *testing.T, b *Base, src string, width int, want string) {
	t.Helper()
	got := b.Exec(src)
	if shown := rowsShown(got.Rows); shown != want {
		t.Errorf("Exec(%q): rows %s want %s", src, shown, want)
	}
	got.Rows = nil
	if rest := (api.Result{Width: width}); !reflect.DeepEqual(got, rest) {
		t.Errorf("Exec(%q) = %v, want %v", src, got, rest)
	}
}

// wantChange wants the whole Result of a statement that is no query.
func wantChange(t *testing.T, b *Base, src string, count int) {
	t.Helper()
	if got := b.Exec(src); !reflect.DeepEqual(got, api.Result{Count: count}) {
		t.Errorf("Exec(%q) = %v, want the count %d alone", src, got, count)
	}
}

// wantError wants nothing but the error and its place (P1), and a base that is as it was.
func wantError(t *testing.T, b *Base, src string, err api.Errno, at int) {
	t.Helper()
	before := everything(b)
	if got := b.Exec(src); !reflect.DeepEqual(got, api.Result{Err: err, At: at}) {
		t.Errorf("Exec(%.80q) = %v, want %d, %d alone", src, got, err, at)
	}
	if after := everything(b); after != before {
		t.Errorf("Exec(%.80q) has changed\n%s to\n%s", src, before, after)
	}
}

// wantErrors takes statements with a mark ^ ahead of what is wrong.
func wantErrors(t *testing.T, b *Base, err api.Errno, texts ...string) {
	t.Helper()
	for _, text := range texts {
		src, at := marked(text)
		wantError(t, b, src, err, at)
	}
}

// everything shows the tables whose names the tests use.
func everything(b *Base) string {
	text := ""
	for _, name := range strings.Fields("t u v w x none a b c d e f g h i") {
		got := b.Exec("select * from " + name)
		if got.Err == api.OK {
			text += name + " of " + strconv.Itoa(got.Width) + ": " + rowsShown(got.Rows) + "\n"
		}
	}
	return text
}

// TestNew (P4): a new base has no tables.
func TestNew(t *testing.T) {
	b := New()
	for _, name := range strings.Fields("t a abcdefghijkl") {
		wantError(t, b, "select * from "+name, api.ErrName, 14)
		wantError(t, b, "drop table "+name, api.ErrName, 11)
	}
	if everything(b) != "" {
		t.Error("a new base has", everything(b))
	}
}

// TestParseFirst (P4): Parse's error comes ahead of all others, and nothing is done.
func TestParseFirst(t *testing.T) {
	b := shop(t)
	wantError(t, b, "", api.ErrSyntax, 0)
	wantError(t, b, "select", api.ErrSyntax, 6)
	wantError(t, b, "select nothing from nowhere,", api.ErrSyntax, 28)
	wantError(t, b, "select 1 + 'x' )", api.ErrSyntax, 15)
	wantError(t, b, "delete from t where true #", api.ErrSyntax, 25)
	wantError(t, b, "drop table t drop table u", api.ErrSyntax, 13)
	wantError(t, b, "commit commit", api.ErrSyntax, 7)
	wantError(t, b, "insert into t values (1, 'z'), (1 'z')", api.ErrSyntax, 34)
	wantError(t, b, "select nothing, "+many("(", 17)+"1"+many(")", 17), api.ErrDeep, 32)
	wantError(t, b, "delete from t "+many(" ", api.MaxText), api.ErrLong, 0)
	wantChange(t, b, "delete from t"+many(" ", api.MaxText-len("delete from t")), 3)
}

// TestParseFirstAlways (P1, P4): at every text Exec answers Parse's error alone.
func TestParseFirstAlways(t *testing.T) {
	b := shop(t)
	before := everything(b)
	for _, src := range oddTexts() {
		want := parsed(src)
		if want.err == api.OK {
			continue
		}
		if got := b.Exec(src); !reflect.DeepEqual(got, api.Result{Err: want.err, At: want.at}) {
			t.Errorf("Exec(%.80q) = %v, and Parse %v", src, got, want)
		}
	}
	if everything(b) != before {
		t.Error("texts that are no statements have changed the tables")
	}
}

// TestEveryStatementEnds (P1): Exec answers any statement, whatever the tables.
func TestEveryStatementEnds(t *testing.T) {
	for _, make := range []func(*testing.T) *Base{shop, func(*testing.T) *Base { return New() }} {
		b := make(t)
		for _, src := range oddTexts() {
			if got := b.Exec(src); got.Err != api.OK && !reflect.DeepEqual(got, api.Result{Err: got.Err, At: got.At}) {
				t.Errorf("Exec(%.80q) = %v", src, got)
			}
		}
	}
}

// TestExamples: those of the document.
func TestExamples(t *testing.T) {
	b := New()
	wantChange(t, b, "create table t (a int, b text)", 0)
	wantChange(t, b, "insert into t values (1, 'x'), (1, 'x'), (2, null)", 3)
	wantRows(t, b, "select a + 1 from t where b = 'x'", 1, "2|2|")
	wantRows(t, b, "select a from t where not b = 'x'", 1, "")
	wantRows(t, b, "select distinct a from t union all select 1", 1, "1|1|2|")
	wantRows(t, b, "select a from t except all select 1", 1, "1|2|")
	wantRows(t, b, "select a, (select b from t u where u.a = t.a) from t", 2, "1 null|1 null|2 null|")
	wantError(t, b, "select c from t", api.ErrName, 7)
	wantError(t, b, "select a from t where b = 1", api.ErrType, 24)
	wantError(t, b, "select", api.ErrSyntax, 6)
}
