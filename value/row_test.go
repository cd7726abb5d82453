package value

import (
	"slices"
	"testing"
)

func numbers(list ...int64) Row {
	var row Row
	for _, n := range list {
		row = append(row, Int(n))
	}
	return row
}

func tableOf(list ...int64) []Row {
	var rows []Row
	for _, n := range list {
		rows = append(rows, numbers(n))
	}
	return rows
}

// ways lists what Together gives: the first cells of the rows that are taken, up to so many ways.
func ways(most int, tables ...[]Row) [][]int64 {
	list := [][]int64{}
	if most == 0 {
		return list
	}
	for taken := range Together(tables...) {
		way := []int64{}
		for _, cell := range Cells(taken...) {
			way = append(way, cell.N)
		}
		list = append(list, way)
		if len(list) == most {
			break
		}
	}
	return list
}

// TestTogether (P9): all ways to take a row of each table, and no more of them than are asked for.
func TestTogether(t *testing.T) {
	all := [][]int64{{1, 3, 4}, {1, 3, 5}, {1, 3, 6}, {2, 3, 4}, {2, 3, 5}, {2, 3, 6}}
	for most := range len(all) + 2 {
		want := all[:min(most, len(all))]
		if got := ways(most, tableOf(1, 2), tableOf(3), tableOf(4, 5, 6)); !slices.EqualFunc(got, want, slices.Equal) {
			t.Errorf("the first %d ways are %v, want %v", most, got, want)
		}
	}
	if got := ways(9); len(got) != 1 || len(got[0]) != 0 {
		t.Errorf("without tables the ways are %v", got)
	}
	for _, tables := range [][][]Row{{nil}, {nil, tableOf(1)}, {tableOf(1, 2), nil}, {tableOf(1), nil, tableOf(2)}} {
		if got := ways(9, tables...); len(got) != 0 {
			t.Errorf("with an empty table the ways are %v", got)
		}
	}
}

// TestCells: the cells of rows, one behind the other, and no more of them than are asked for.
func TestCells(t *testing.T) {
	rows := []Row{numbers(5, 6), {}, numbers(7), numbers(8, 9)}
	for most := range 6 {
		var got []int64
		for i, cell := range Cells(rows...) {
			if i != len(got) {
				t.Errorf("the cell %d has the number %d", len(got), i)
			}
			if i == most {
				break
			}
			got = append(got, cell.N)
		}
		if want := []int64{5, 6, 7, 8, 9}[:min(most, 5)]; !slices.Equal(got, want) {
			t.Errorf("the first %d cells are %v", most, got)
		}
	}
}
