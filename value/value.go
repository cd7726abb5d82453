// Package value reckons with values (P8), and has their order and that of rows.
package value

import (
	"cmp"
	"slices"

	"satchel/api"
)

// Null is what is not known.
func Null() api.Value { return api.Value{} }

func Int(n int64) api.Value { return api.Value{Kind: api.Int, N: n} }

func Text(s string) api.Value { return api.Value{Kind: api.Text, S: s} }

func Bool(is bool) api.Value {
	if is {
		return api.Value{Kind: api.Bool, N: 1}
	}
	return api.Value{Kind: api.Bool}
}

func IsNull(v api.Value) bool { return v.Kind == api.Null }

// IsTrue is false of what is not known, too.
func IsTrue(v api.Value) bool { return v == Bool(true) }

// Compare tells by a number below, at or above 0 how a and b are ordered.
func Compare(a, b api.Value) int {
	return cmp.Or(cmp.Compare(a.Kind, b.Kind), cmp.Compare(a.N, b.N), cmp.Compare(a.S, b.S))
}

// Of is what a sign or word of an expr makes of its operands.
func Of(word string, operands ...api.Value) api.Value {
	switch word {
	case "and":
		return decidedBy(Bool(false), operands...)
	case "or":
		return decidedBy(Bool(true), operands...)
	case "is":
		return Bool(IsNull(operands[0]))
	case "coalesce":
		return firstKnown(operands...)
	}
	if slices.ContainsFunc(operands, IsNull) {
		return Null()
	}
	switch word {
	case "not":
		return Bool(!IsTrue(operands[0]))
	case "+", "-", "*", "/":
		return reckoned(word, operands...)
	}
	return Bool(compared(word, Compare(operands[0], operands[1])))
}

// In tells whether v is one of the values, as far as that is known.
func In(v api.Value, values ...api.Value) api.Value {
	switch {
	case !IsNull(v) && slices.Contains(values, v):
		return Bool(true)
	case len(values) > 0 && IsNull(v), slices.ContainsFunc(values, IsNull):
		return Null()
	}
	return Bool(false)
}

// Single is the value, if there is just one, else null.
func Single(values ...api.Value) api.Value {
	if len(values) != 1 {
		return Null()
	}
	return values[0]
}

// decidedBy is decisive if an operand is, else null if one is, else the other truth.
func decidedBy(decisive api.Value, operands ...api.Value) api.Value {
	switch {
	case slices.Contains(operands, decisive):
		return decisive
	case slices.ContainsFunc(operands, IsNull):
		return Null()
	}
	return Bool(!IsTrue(decisive))
}

func firstKnown(operands ...api.Value) api.Value {
	for _, v := range operands {
		if !IsNull(v) {
			return v
		}
	}
	return Null()
}

// reckoned has numbers as operands: two, or the one that a - stands ahead of.
func reckoned(sign string, operands ...api.Value) api.Value {
	if len(operands) == 1 {
		return Int(-operands[0].N)
	}
	a, b := operands[0].N, operands[1].N
	switch sign {
	case "+":
		return Int(a + b)
	case "-":
		return Int(a - b)
	case "*":
		return Int(a * b)
	}
	if b == 0 {
		return Null()
	}
	return Int(a / b)
}

// compared tells whether a comparison holds of two values whose order is known.
func compared(sign string, order int) bool {
	switch sign {
	case "=":
		return order == 0
	case "<>":
		return order != 0
	case "<":
		return order < 0
	case "<=":
		return order <= 0
	case ">":
		return order > 0
	}
	return order >= 0
}
