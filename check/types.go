package check

import (
	"slices"

	"satchel/api"
)

// A type is api.Bool, api.Int, api.Text or none: that of null and of what is
// made of it alone.
const none = api.Null

// fit tells whether all these types fit one another, and the first that is one.
func fit(types ...int) (int, bool) {
	first := none
	for _, t := range types {
		switch {
		case first == none:
			first = t
		case t != none && t != first:
			return none, false
		}
	}
	return first, true
}

// allFit tells whether a type fits each of the others.
func allFit(one int, others ...int) bool {
	_, ok := fit(slices.Concat([]int{one}, others)...)
	return ok
}

// typeOf is the type of what a sign or word makes of operands of these types,
// and whether it takes them.
func typeOf(word string, operands ...int) (int, bool) {
	switch word {
	case "+", "-", "*", "/":
		return api.Int, allFit(api.Int, operands...)
	case "and", "or", "not":
		return api.Bool, allFit(api.Bool, operands...)
	case "coalesce":
		return fit(operands...)
	}
	// a comparison, or an is null, whose operand has nothing to fit
	_, ok := fit(operands...)
	return api.Bool, ok
}
