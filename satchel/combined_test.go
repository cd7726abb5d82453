package satchel

import (
	"slices"
	"strconv"
	"strings"
	"testing"

	"satchel/api"
)

// TestCombined (P9): the rows of two queries, counted with all, and once without.
func TestCombined(t *testing.T) {
	b := shop(t)
	wantRows(t, b, "select a from t union all select a from u", 1, "1|1|2|2|3|")
	wantRows(t, b, "select a from t union select a from u", 1, "1|2|3|")
	wantRows(t, b, "select a from t except all select 1", 1, "1|2|")
	wantRows(t, b, "select a from t except select 1", 1, "2|")
	wantRows(t, b, "select a from t except select 2", 1, "1|")
	wantRows(t, b, "select a from t intersect all select a from t", 1, "1|1|2|")
	wantRows(t, b, "select a from t intersect select a from t", 1, "1|2|")
	wantRows(t, b, "select a from t intersect all select 1", 1, "1|")
	wantRows(t, b, "select * from t except all select 1, 'x'", 2, "1 'x'|2 null|")
	wantRows(t, b, "select * from t except select 2, null", 2, "1 'x'|")
	wantRows(t, b, "select * from t intersect select 2, null", 2, "2 null|")
	wantRows(t, b, "select * from t intersect select 1, 'y'", 2, "")
	wantRows(t, b, "select 2 union select x from none union all select 1", 1, "1|2|")
	wantRows(t, b, "select x from none union select x from none", 1, "")
	wantRows(t, b, "select null union all select 1 union all select null union all select -1", 1, "null|null|-1|1|")
	wantRows(t, b, "select 'b' union select 'a' union select '' union select null", 1, "null|''|'a'|'b'|")
	wantRows(t, b, "select distinct a from t union all select 1", 1, "1|1|2|")
}

// bag is so many nulls, so many 1, so many 2, and so on.
type bag []int

// filledWith makes a table of these values.
func filledWith(t *testing.T, b *Base, name string, counts bag) {
	t.Helper()
	wantChange(t, b, "create table "+name+" (n int)", 0)
	for n, count := range counts {
		text := "null"
		if n > 0 {
			text = strconv.Itoa(n)
		}
		for range count {
			wantChange(t, b, "insert into "+name+" values ("+text+")", 1)
		}
	}
}

func (counts bag) shown() string {
	text := ""
	for n, count := range counts {
		one := "null|"
		if n > 0 {
			one = strconv.Itoa(n) + "|"
		}
		text += strings.Repeat(one, count)
	}
	return text
}

func bags() []bag {
	var all []bag
	for i := range 3 {
		for j := range 3 {
			all = append(all, bag{i, j, (i + 2*j) % 3}, bag{j, i, (i + j + 1) % 3})
		}
	}
	return all
}

// TestBags (P9): how often each value is there, from how often on both sides.
func TestBags(t *testing.T) {
	ways := map[string]func(a, b int) int{
		"union all":     func(a, b int) int { return a + b },
		"except all":    func(a, b int) int { return max(0, a-b) },
		"intersect all": func(a, b int) int { return min(a, b) },
		"union":         func(a, b int) int { return min(1, a+b) },
		"except":        func(a, b int) int { return min(1, a) * (1 - min(1, b)) },
		"intersect":     func(a, b int) int { return min(1, a) * min(1, b) },
	}
	for _, first := range bags() {
		for _, second := range bags() {
			b := New()
			filledWith(t, b, "a", first)
			filledWith(t, b, "b", second)
			for word, count := range ways {
				want := slices.Clone(first)
				for i := range want {
					want[i] = count(first[i], second[i])
				}
				wantRows(t, b, "select n from a "+word+" select n from b", 1, want.shown())
			}
		}
	}
}

// TestCombinedOrder (P9): the first two belong together first, and intersect ahead
// of union and except, if no brackets say otherwise.
func TestCombinedOrder(t *testing.T) {
	b := New()
	wantRows(t, b, "select 1 union all select 1 union select 1", 1, "1|")
	wantRows(t, b, "select 1 union select 1 union all select 1", 1, "1|1|")
	wantRows(t, b, "select 1 union all (select 1 union select 1)", 1, "1|1|")
	wantRows(t, b, "select 1 except select 1 union select 1", 1, "1|")
	wantRows(t, b, "select 1 except (select 1 union select 1)", 1, "")
	wantRows(t, b, "select 1 except select 2 except select 1", 1, "")
	wantRows(t, b, "select 1 except (select 2 except select 1)", 1, "1|")
	wantRows(t, b, "select 1 union select 2 except select 1", 1, "2|")
	wantRows(t, b, "select 1 union (select 2 except select 1)", 1, "1|2|")
	wantRows(t, b, "select 1 union select 2 intersect select 3", 1, "1|")
	wantRows(t, b, "(select 1 union select 2) intersect select 2", 1, "2|")
	wantRows(t, b, "select 1 intersect select 1 union select 2 intersect select 2", 1, "1|2|")
	wantRows(t, b, "select 1 except select 1 intersect select 2", 1, "1|")
	wantRows(t, b, "select 1 intersect all select 1 intersect select 2", 1, "")
	wantRows(t, b, "(((select 1)) union all ((select 2)))", 1, "1|2|")
}

// TestCombinedWrong (P5): as many columns on both sides, which fit, in this order:
// the first query, the second, what stands between.
func TestCombinedWrong(t *testing.T) {
	b := shop(t)
	for _, word := range []string{"union", "except", "intersect", "union all", "except all", "intersect all"} {
		wantErrors(t, b, api.ErrWidth,
			"select 1 ^"+word+" select 1, 2", "select 1, 2 ^"+word+" select 1", "select * from t ^"+word+" select a from t", "select * from t ^"+word+" select * from t, u", "select 'x' ^"+word+" select 1, 2", "(select 1, 2) ^"+word+" (select 1)", "insert into t select 1, 'x' ^"+word+" select 1", "select exists (select 1 ^"+word+" select 1, 2)", "select (select 1 ^"+word+" select 1, 2)", "select 1 in (select 1, 2 ^"+word+" select 1)", "delete from t where exists (select 1 ^"+word+" select 1, 2)", "select 1 ^"+word+" select 1, 2 union select y",
			"insert ^into t select 1 "+word+" select 2", "select ^(select 1, 2 "+word+" select 1, 2)", "select 1 ^in (select 1, 2 "+word+" select 1, 2)", "select ^* "+word+" select 1, y", "select 1 "+word+" select ^*")
		wantErrors(t, b, api.ErrType,
			"select 1 ^"+word+" select 'x'", "select true ^"+word+" select 1", "select 1, 'x' ^"+word+" select 1, true", "select 1, null ^"+word+" select 'x', null", "select * from t ^"+word+" select * from u", "select null "+word+" select 1 ^"+word+" select 'x'", "select 1 "+word+" select null ^"+word+" select 'x'", "select 1 ^"+word+" (select null "+word+" select 'x')", "select exists (select 1 ^"+word+" select 'x')", "update t set a = (select 1 ^"+word+" select 'x')", "select 1 ^+ 'x' "+word+" select y, 2", "select 1 "+word+" select 1 ^+ 'x', 2", "select (select null "+word+" select 'x') ^+ 1", "select (select 'x' "+word+" select null) ^+ 1", "select 1 ^in (select null "+word+" select 'x')",
			"insert ^into t select null, null "+word+" select 'x', null", "insert ^into t select 1, 1 "+word+" select null, null")
		wantErrors(t, b, api.ErrName,
			"select ^y "+word+" select z", "select 1, 2 "+word+" select ^z", "select 'x' "+word+" select 1 from ^z", "select 1 from ^y "+word+" select 1 from z", "select a from t "+word+" select ^a", "select ^a "+word+" select a from t", "select 1 "+word+" select 2 "+word+" select ^z")
		for _, src := range []string{"select null " + word + " select 1", "select 1, null " + word + " select null, 'x'", "select a, b from t " + word + " select null, 'x'", "insert into t select null, null " + word + " select 1, 'x'"} {
			if got := b.Exec(src); got.Err != api.OK {
				t.Errorf("Exec(%q) = %v", src, got)
			}
		}
	}
}

// TestCombinedChanges (P10): rows of queries with union, except and intersect come into a table.
func TestCombinedChanges(t *testing.T) {
	b := shop(t)
	wantChange(t, b, "insert into none select 1 union all select 1 union all select 2", 3)
	wantChange(t, b, "insert into none (select x from none except select 2)", 1)
	wantRows(t, b, "select * from none", 1, "1|1|1|2|")
	wantChange(t, b, "delete from none where x in (select a from t intersect select a from u)", 1)
	wantRows(t, b, "select * from none", 1, "1|1|1|")
	wantChange(t, b, "update none set x = (select 5 union select 5)", 3)
	wantChange(t, b, "update none set x = (select 5 union all select 5)", 3)
	wantRows(t, b, "select * from none", 1, "null|null|null|")
}
