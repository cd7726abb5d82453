package value

import (
	"iter"
	"slices"

	"satchel/api"
)

// Row is the values of a row, one a column.
type Row = []api.Value

// Cells goes through the cells of these rows as if they were one, from the left.
func Cells(rows ...Row) iter.Seq2[int, api.Value] {
	return func(yield func(int, api.Value) bool) {
		number := 0
		for _, row := range rows {
			for _, cell := range row {
				if !yield(number, cell) {
					return
				}
				number++
			}
		}
	}
}

// Together goes through all ways to take one row of each table: one way, with
// no row, if there is no table. What it gives is written over by the next.
func Together(tables ...[]Row) iter.Seq[[]Row] {
	return func(yield func([]Row) bool) {
		taken := make([]Row, len(tables))
		takeFrom(0, tables, taken, yield)
	}
}

// takeFrom takes the rows of the tables from a number on, in each way, and
// tells whether to go on.
func takeFrom(number int, tables [][]Row, taken []Row, yield func([]Row) bool) bool {
	if number == len(tables) {
		return yield(taken)
	}
	for _, taken[number] = range tables[number] {
		if !takeFrom(number+1, tables, taken, yield) {
			return false
		}
	}
	return true
}

// CompareRows orders rows of one width by their first values, then their second ones, and so on.
func CompareRows(a, b Row) int {
	for i, cell := range Cells(a) {
		if order := Compare(cell, b[i]); order != 0 {
			return order
		}
	}
	return 0
}

// Sorted is the rows of several lists in their order.
func Sorted(lists ...[]Row) []Row {
	rows := slices.Concat(lists...)
	slices.SortFunc(rows, CompareRows)
	return rows
}

// Once leaves each of the rows, which are in order, there once.
func Once(rows []Row) []Row {
	return slices.CompactFunc(rows, func(a, b Row) bool { return CompareRows(a, b) == 0 })
}

// Matched takes two lists of rows that are in order, and for each row of the first
// one that is the same out of the second, as long as there is one left: those
// rows of the first for which there was one, and the rest, both in order.
func Matched(first, second []Row) (matched, rest []Row) {
	for _, row := range first {
		for len(second) > 0 && CompareRows(second[0], row) < 0 {
			second = second[1:]
		}
		if len(second) > 0 && CompareRows(second[0], row) == 0 {
			second = second[1:]
			matched = append(matched, row)
		} else {
			rest = append(rest, row)
		}
	}
	return matched, rest
}
