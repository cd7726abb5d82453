package satchel

import (
	"strings"
	"testing"
)

// wantValues takes exprs and their values in turn.
func wantValues(t *testing.T, pairs ...string) {
	t.Helper()
	b := New()
	for i := 0; i < len(pairs); i += 2 {
		wantRows(t, b, "select "+pairs[i], 1, pairs[i+1]+"|")
	}
}

// TestNumbers (P8): sums go round; a quotient is cut towards 0, and null of a 0.
func TestNumbers(t *testing.T) {
	wantValues(t,
		"1 + 2", "3", "1 - 2", "-1", "3 * -4", "-12", "7 / 2", "3", "-7 / 2", "-3", "7 / -2", "-3", "-7 / -2", "3", "1 / 2", "0", "-1 / 2", "0", "6 / 3", "2",
		"1 / 0", "null", "0 / 0", "null", "-1 / (1 - 1)", "null", "0 / 5", "0",
		"10 - 3 - 2", "5", "100 / 10 / 5", "2", "2 * 7 / 4", "3", "7 / 4 * 2", "2", "1 + 2 * 3", "7", "(1 + 2) * 3", "9", "- 2 + 3", "1", "- (2 + 3)", "-5", "- - 5", "5", "1--1", "2", "-0", "0",
		"9223372036854775807", "9223372036854775807", "9223372036854775807 + 1", "-9223372036854775808", "-9223372036854775807 - 2", "9223372036854775807", "9223372036854775807 * 2", "-2", "4611686018427387904 * 2", "-9223372036854775808", "4294967296 * 4294967296", "0",
		"(-9223372036854775807 - 1) / -1", "-9223372036854775808", "- (-9223372036854775807 - 1)", "-9223372036854775808", "(-9223372036854775807 - 1) * -1", "-9223372036854775808", "9223372036854775807 / -1", "-9223372036854775807",
		"007", "7", "1 + null", "null", "null - 1", "null", "null * 0", "null", "null / 0", "null", "0 / null", "null", "- null", "null",
	)
}

// TestTexts (P8): a text is worth its bytes.
func TestTexts(t *testing.T) {
	wantValues(t,
		"''", "''", "'x'", "'x'", "''''", "'''", "'a''b'", "'a'b'", "''''''", "''''", "' '", "' '", "'select'", "'select'", "'A\tb\n\x00\xff'", "'A\tb\n\x00\xff'", "'(*,''--'", "'(*,'--'",
		"'a' = 'a'", "true", "'a' = 'A'", "false", "'a' = 'a '", "false", "'it''s' = 'it''s'", "true", "'a' < 'ab'", "true", "'' < 'a'", "true", "'B' < 'a'", "true", "'b' > 'ab'", "true", "'\xff' > 'z'", "true", "'\x00' > ''", "true", "'10' < '9'", "true",
	)
}

// TestComparisons (P8): each sign with what is below, the same and above, and with null.
func TestComparisons(t *testing.T) {
	for _, pair := range [][2]string{{"1", "2"}, {"-1", "0"}, {"-9223372036854775807 - 1", "9223372036854775807"}, {"9", "10"}, {"false", "true"}, {"'a'", "'b'"}, {"'a'", "'aa'"}, {"''", "'a'"}} {
		low, high := "("+pair[0]+")", "("+pair[1]+")"
		for i, sign := range strings.Fields("= <> < <= > >=") {
			below := strings.Fields("false true true true false false")[i]
			same := strings.Fields("true false false true false true")[i]
			above := strings.Fields("false true false false true true")[i]
			wantValues(t, low+sign+high, below, low+sign+low, same, high+sign+high, same, high+sign+low, above,
				low+sign+"null", "null", "null "+sign+high, "null", "null "+sign+" null", "null")
		}
	}
	wantValues(t, "(1 = 1) = true", "true", "(1 = 2) = true", "false", "(1 = null) is null", "true")
}

// TestLogic (P8): and, or and not of all that is true, false or unknown.
func TestLogic(t *testing.T) {
	values := strings.Fields("false null true")
	for i, a := range values {
		for j, b := range values {
			// of these three and is the lesser one, or the greater one
			wantValues(t, a+" and "+b, values[min(i, j)], a+" or "+b, values[max(i, j)])
			for k, c := range values {
				wantValues(t, a+" and "+b+" and "+c, values[min(i, j, k)], a+" or "+b+" or "+c, values[max(i, j, k)], a+" or "+b+" and "+c, values[max(i, min(j, k))], "not "+a+" and "+b, values[min(2-i, j)])
			}
		}
		wantValues(t, "not "+a, values[2-i], "not not "+a, a)
	}
	wantValues(t, "not 1 = 2", "true", "not (true and false)", "true")
}

// TestUnknown (P8): is null, coalesce and case.
func TestUnknown(t *testing.T) {
	wantValues(t,
		"null is null", "true", "null is not null", "false", "1 is null", "false", "1 is not null", "true", "0 is null", "false", "'' is null", "false", "false is null", "false", "1 / 0 is null", "true", "not null is null", "false", "(not null) is null", "true", "1 + null is not null", "false",
		"coalesce(1)", "1", "coalesce(null)", "null", "coalesce(null, 1, 2)", "1", "coalesce(null, null)", "null", "coalesce(0, 1)", "0", "coalesce(false, true)", "false", "coalesce('', 'x')", "''", "coalesce(null, null, null, 'x', null)", "'x'", "coalesce(1 / 0, 5)", "5",
		"case when true then 1 end", "1", "case when false then 1 end", "null", "case when null then 1 end", "null", "case when null then 1 else 2 end", "2", "case when false then 1 when true then 2 when true then 3 else 4 end", "2", "case when false then 1 when null then 2 else 3 end", "3", "case when true then null else 1 end", "null", "case when false then null else 'x' end", "'x'", "case when 1 = 1 then 1 = 2 end", "false", "case when true then 1 end + 1", "2", "case when case when true then false end then 1 else 2 end", "2",
	)
}
