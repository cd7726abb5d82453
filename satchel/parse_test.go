package satchel

import (
	"strings"
	"testing"

	"satchel/api"
)

type answer struct {
	err api.Errno
	at  int
}

func parsed(src string) answer {
	e, at := Parse(src)
	return answer{e, at}
}

func wantAnswer(t *testing.T, src string, want answer) {
	t.Helper()
	if got := parsed(src); got != want {
		t.Errorf("Parse(%.80q) = %v, want %v", src, got, want)
	}
}

func many(s string, count int) string { return strings.Repeat(s, count) }

func goodStatements() []string {
	return []string{
		"create table t (a int)", "create table t(a int,b text,c bool,d int,e int,f int)", "create table abcdefghijkl (a_1 int)", "drop table t",
		"insert into t values (1)", "insert into t values (1, 'x'), (null, true)", "insert into t values (1, 2, 3, 4, 5, 6, 7, 8)", "insert into t values ((select 1))", "insert into t select 1 union select 2", "insert into t (select 1)", "insert into t ((select 1) except select 2)",
		"delete from t", "delete from t where a = 1", "update t set a = 1", "update t set a = 1 = 2, b = not c where exists (select 1)",
		"begin", "commit", "rollback", "\n  begin\n\n",
		"select 1", "select *", "select * where true", "select distinct *", "select distinct a, b from t", "select t.a from t, u v, w x where a", "select a, a, a, a, a, a, a, a", "(select 1)", "(((select 1)))", "(select 1) union all (select 2 intersect select 3) except select 4",
		"select a or b and not c or not not d", "select a = b, a <> b, a < b, a <= b, a > b, a >= b", "select a<b,a<>b,a<=b,a>=b", "select a is null, a is not null", "select not a is not null", "select a in (select 1), a not in (select 1)", "select not a not in (select 1)", "select 1 + 2 - 3 * 4 / 5", "select - - 1 * -a", "select 1--1", "select (a = b) = c", "select (a is null) is null",
		"select 0, 9223372036854775807, " + many("0", 100) + "9223372036854775807", "select 1from t", "select '', '''', 'a''b', 'A\tb\n\x00\xff#'", "select'x'from t", "select'x''y'", "select true, false, null", "select a . b, a.b",
		"select (1), ((1))", "select (select 1), ((select 1))", "select ((select 1) union select 2) + (1)", "select (((select 1)) intersect all select 2)", "select ((1) + (select 1))", "select exists (select 1), exists ((select 1))", "select coalesce(1), coalesce(a, not b, (select 1))", "select case when a then b end", "select case when a or b then c when d then e when g then h else f end", "select case when case when a then b end then c end",
	}
}

// TestGood (P3): statements of every kind are OK 0.
func TestGood(t *testing.T) {
	for _, src := range goodStatements() {
		wantAnswer(t, src, answer{api.OK, 0})
	}
}

// marked takes the mark ^ out of a text, and tells where it stood.
func marked(s string) (string, int) {
	at := strings.Index(s, "^")
	return s[:at] + s[at+1:], at
}

func wantMarked(t *testing.T, err api.Errno, texts ...string) {
	t.Helper()
	for _, s := range texts {
		src, at := marked(s)
		wantAnswer(t, src, answer{err, at})
	}
}

// TestSyntaxOfTokens (P3): what is no token is wrong at its first byte.
func TestSyntaxOfTokens(t *testing.T) {
	wantMarked(t, api.ErrSyntax,
		"^#", "^;", "^_a", "^Select 1", "select ^A", "select a^A", "select a^;", "select 1 ^!= 2", "select 1 ^% 2", "select ^\"a\"", "select^\t1", "select 1^\r", "select 1^\x00", "select ^\x80", "select a^\xc3\xa9", "select a -- b ^#",
		"create table ^abcdefghijklm (a int)", "create table t (^abcdefghijklm int)", "select a from t ^abcdefghijklm", "select a.^abcdefghijklm", "select ^selectselectselect",
		"select ^9223372036854775808", "select 1, ^09223372036854775808", "select ^"+many("9", 100), "select -^9223372036854775808",
		"select ^'", "select ^'x", "select ^'x''", "select ^'''", "select 'x', ^'y from t", "select 'x' ^'y'", "select 'x'' ' ^'", "select 'x' ^'",
		"select a < ^> b", "select a = ^< b", "select a <= ^> b", "select a <> ^= b", "select a > ^< b", "select a ^! b",
	)
}

// TestKeywords (P3): no keyword is a name; a word that only begins like one is.
func TestKeywords(t *testing.T) {
	for _, word := range strings.Fields("all and begin bool case coalesce commit create delete distinct drop else end except exists false from in insert int intersect into is not null or rollback select set table text then true union update values when where") {
		wantMarked(t, api.ErrSyntax, "drop table ^"+word, "select a.^"+word+" from t", "create table t (^"+word+" int)")
		for _, other := range []string{word + "s", word + "_", word + "2", word[:len(word)-1] + "z"} {
			wantAnswer(t, "select "+other+", "+other+"."+other+" from "+other+" "+other, answer{api.OK, 0})
		}
	}
}

// TestSyntaxOfStatements (P3): a token that fits nowhere is wrong at its first byte; so is the end, at its place.
func TestSyntaxOfStatements(t *testing.T) {
	wantMarked(t, api.ErrSyntax,
		"^", " \n ^", "^a", "^1", "^'x'", "^)", "^values (1)", "^where", "^-1", "begin ^begin", "commit ^;", "rollback ^1", "begin  ^'",
		"create ^", "create ^t (a int)", "create table  ^", "create table ^select (a int)", "create table ^'t' (a int)", "create table t ^", "create table t ^a int", "create table t (^)", "create table t (a^", "create table t (a ^b)", "create table t (a ^null)", "create table t (a int^", "create table t (a int ^b int)", "create table t (a int,^", "create table t (a int, ^)", "create table t (a int) ^,", "create table t ^.u (a int)", "create table t (^(a int))",
		"drop ^t", "drop table ^", "drop table t ^u", "drop table t^.u",
		"insert ^t", "insert into ^values (1)", "insert into t ^", "insert into t ^u select 1", "insert into t (^a) values (1)", "insert into t (^1)", "insert into t values^", "insert into t values ^1", "insert into t values (^)", "insert into t values (^select 1)", "insert into t values (1,^)", "insert into t values (1) ^(2)", "insert into t values (1),^", "insert into t values (1) ^union select 2", "insert into t values (1) ^where true",
		"delete ^t", "delete from ^", "delete from t ^u", "delete from t ^, u", "delete from t where^", "delete from t where a ^where b",
		"update ^set a = 1", "update t ^a = 1", "update t set ^", "update t set a^", "update t set t^.a = 1", "update t set a ^<> 1", "update t set a = ^", "update t set a = 1 ^b = 2", "update t set a = 1,^", "update t set a = 1, ^where b", "update t set a = 1 where b ^, c = 2",
	)
}

// TestColumns (P3): a table's seventh column is wrong at its first token.
func TestColumns(t *testing.T) {
	six := "create table t (a int, b int, c int, d int, e int, f int"
	wantAnswer(t, six+")", answer{api.OK, 0})
	wantMarked(t, api.ErrSyntax, six+", ^g int)", six+", ^g 1", six+", ^", six+",^)", six+" ^g", six+", ^#", six+"^")
}

// TestSyntaxOfQueries (P3): the same, within queries and exprs.
func TestSyntaxOfQueries(t *testing.T) {
	wantMarked(t, api.ErrSyntax,
		"select^", "select ^,", "select ^from t", "select distinct ^", "select distinct ^distinct a", "select ^all a", "select * ^, a", "select * ^+ 1", "select a, ^*", "select t.^*", "select a ^b", "select a, ^", "select a from ^", "select a from ^(select 1)", "select a from t ^.u", "select a from t u ^v", "select a from t ^'u'", "select a from t, ^where b", "select a where b ^from t", "select a where^", "select a from t group ^by",
		"select 1 union^", "select 1 union ^1", "select 1 union all ^all select 2", "select 1 intersect ^distinct select 2", "select 1 ^all select 2", "select 1 ^select 2", "(^", "(^)", "(^1)", "((^a))", "(select 1^", "(select 1) ^+ 1", "(select 1)^)", "(select 1) ^where true", "(select 1) union (^", "(select 1 ^;)",
	)
	wantMarked(t, api.ErrSyntax,
		"select a or^", "select a and ^or b", "select ^and", "select not^", "select a = ^not b", "select a + ^not b", "select a not ^b", "select a not ^null", "select a not^", "select a = b ^= c", "select a = b ^in (select 1)", "select a = b ^not in (select 1)", "select a = b ^is null", "select a = ^", "select a is^", "select a is ^true", "select a is not ^not null", "select a is null ^is null", "select a is null ^= b", "select a in ^b", "select a in (^1)", "select a in (^)", "select a in ((^1))", "select a in ^select 1", "select a in (select 1^", "select a in (select 1) ^in (select 2)", "select a not in ^",
		"select 1 +^", "select 1 + ^* 2", "select 1 * ^", "select ^+ 1", "select -^", "select 1 ^2", "select ^.a", "select a.^", "select a.^1", "select a.^from", "select a.b^.c", "select 1^.5",
		"select (^", "select (^)", "select (1^", "select (1 ^2)", "select (1^, 2)", "select ((1)^", "select (1 ^union select 2)", "select ((1) ^union select 2)", "select ((select 1) ^+ 1)", "select ((select 1)^, 2)", "select ((select 1) union ^1)", "select (((select 1)) ^= 1)", "select ((select 1^", "select (^union", "select (1)^)",
		"select exists^", "select exists ^a", "select exists (^1)", "select exists (^)", "select exists ((select 1) ^+ 1)", "select coalesce^", "select coalesce ^1", "select coalesce(^)", "select coalesce(^select 1)", "select coalesce(1,^)", "select coalesce(1 ^2)", "select coalesce(1^",
		"select case^", "select case ^a when b then c end", "select case ^else a end", "select case ^end", "select case when^", "select case when ^then", "select case when a ^end", "select case when a then^", "select case when a then b^", "select case when a then b ^then c", "select case when a then b else^", "select case when a then b else c^", "select case when a then b else c ^when d then e end", "select case when a then b else c ^else d end", "select case when a then b end ^end",
	)
}
