package satchel

import (
	"regexp"
	"strings"
	"testing"

	"satchel/api"
)

// flawed is a statement with several flaws, [a wrong|right] and the like, and with
// marks like @a ahead of what is told of one: a is the first that is found, then b,
// and so on. What is told of a flaw without a mark is at 0.
type flawed struct {
	text   string
	errors string // a word for each flaw
}

var (
	flaw = regexp.MustCompile(`\[([a-z]) ([^|\]]*)\|([^|\]]*)\]`)
	mark = regexp.MustCompile(`@[a-z]`)
)

// mended is the statement with so many flaws less, and the place of the next one.
func (f flawed) mended(count int) (string, int) {
	next := string(rune('a' + count))
	text := flaw.ReplaceAllStringFunc(f.text, func(one string) string {
		parts := flaw.FindStringSubmatch(one)
		if parts[1] < next {
			return parts[3]
		}
		return parts[2]
	})
	text = mark.ReplaceAllStringFunc(text, func(one string) string {
		if one == "@"+next {
			return "^"
		}
		return ""
	})
	if !strings.Contains(text, "^") {
		return text, 0
	}
	return marked(text)
}

func errorOf(word string) api.Errno {
	switch word {
	case "name":
		return api.ErrName
	case "type":
		return api.ErrType
	case "width":
		return api.ErrWidth
	}
	return api.ErrMuch
}

// wantInTurn mends one flaw after the other: each time the next one is told, and
// nothing at the end.
func wantInTurn(t *testing.T, all ...flawed) {
	t.Helper()
	for _, f := range all {
		words := strings.Fields(f.errors)
		for i, word := range words {
			src, at := f.mended(i)
			wantError(t, shop(t), src, errorOf(word), at)
		}
		src, _ := f.mended(len(words))
		if got := shop(t).Exec(src); got.Err != api.OK {
			t.Errorf("Exec(%q) = %d, %d", src, got.Err, got.At)
		}
	}
}

// TestQueriesInTurn (P5, P7): what stands behind from, the exprs, the where; the
// first query, the second, the word between; and behind all that what is too much.
func TestQueriesInTurn(t *testing.T) {
	wantInTurn(t,
		flawed{"select @c[c y|v.a], b @d[d +|=] 'x' from @a[a y|t], u @b[b t|v] @fwhere @e[e y|v.a] [f +|=] 1",
			"name name name type name type"},
		flawed{"select @a[a y|1], 1[e , 2|] @cunion all select @b[b y|1], [c 'x'|2][e , 2|] @eexcept select @d[d y|1], 3",
			"name name type name width"},
		flawed{"select @a[a y|1], [e 'x'|1] @eunion (select @b[b y|1], 1 @dexcept all (select @c[c y|2], 2[d , 2|]))",
			"name name name width type"},
		flawed{"select @b[b y|a] from @a[a y|t] @iunion select @d[d y|a][i , 1|] from @c[c y|u] @ewhere [e 1|c] @hintersect all select [h 'x'|2][i , 1|] from @f[f y|u] @gwhere [g a|true]",
			"name name name name type name type type width"},
	)
}

// TestWithinInTurn (P5, P7): a query within ahead of what it stands in.
func TestWithinInTurn(t *testing.T) {
	wantInTurn(t,
		flawed{"select 1 from t @gwhere case when @a[a y|t.a] @e@fin (select case when @c[c y|u.a] = 1 then [f 'x'|1] end[e , 1|] from @b[b y|u] @dwhere [d 1|c]) then [g 1|true] end",
			"name name name type width type type"},
		flawed{"select @c(select @b[b y|a][c , 1|] from @a[a y|u]) @d[d and|+] 1, exists (select @e[e *|1] @fwhere [f 5|true]) from t v, [h t ta, t tb, t tc, t td, t te, t tf|w] @gwhere [g v.a|true]",
			"name name width type width type type much"},
		flawed{"select case @bwhen @a[a y|1] [b +|=] 1 then @c[c y|1] @dwhen [d 'x'|null] @fthen case when @e[e y|true] then [f 'x'|5] end @helse coalesce(@g[g y|null], [h 'x'|7]) end @i+ [i 'x'|1], @kcoalesce(null, [k 2|'y'], (select @j[j y|'x']))",
			"name type name type name type name type type name type"},
	)
}

// TestChangesInTurn (P5, P7): the table, each row or each name with its = and expr,
// the where, the insert itself.
func TestChangesInTurn(t *testing.T) {
	wantInTurn(t,
		flawed{"create table @a[a t|v] (n int, @b[b n|m] int, @c[c m|k] text)", "name name name"},
		flawed{"insert into @a[a y|t] values @c(@b[b z|1], [c 1|'x']), @e((select @d[d z|1])[e |, 'x']), @g(@f(select 1[f , 2|]), [g true|(select 'y' from u)]), (1, (select 'x' from u[h , t ta, t tb, t tc, t td, t te, t tf|]))",
			"name name type name width width type much"},
		flawed{"insert @f@ginto @a[a y|t] select @c[c z|1], [g 1|'x'][f , 2|] from @b[b y|u] @dwhere [d 1|true] @eunion all select 2, [g 1|'x'][f , 2|][e , 3|]",
			"name name name type width width type"},
		flawed{"update @a[a y|t] set @b[b c|a] @d= @c[c y|1] [d =|+] 1, @e[e a|b] @h= case when exists (select @f[f z|t.b] from w[j , t ta, t tb, t tc, t td, t te, t tf|]) then @g(select [h 1|s][g , 2|] from w) end @iwhere [i a|a in (select u.a from u)]",
			"name name name type name name width type type much"},
		flawed{"delete from @a[a y|t] @ewhere case when exists (select @c[c z|t.a] from @b[b y|u] v[f , t ta, t tb, t tc, t td, t te, t tf|]) then (select [e 1|b = 'x'] @dwhere [d a|true]) end",
			"name name name type type much"},
	)
}
