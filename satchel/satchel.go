// Package satchel: tables as bags, asked by a small SQL: see DOC.md.
package satchel

import (
	"satchel/api"
	"satchel/check"
	"satchel/run"
	"satchel/syntax"
	"satchel/table"
)

// Parse tells whether a text is a statement, as far as its words go: what is wrong, and where (P3).
func Parse(src string) (api.Errno, int) {
	_, errno, at := syntax.Parse(src)
	return errno, at
}

// Base is tables.
type Base struct {
	tables  table.List
	begun   bool       // there is a transaction
	atBegin table.List // the tables as they were when it began
}

// New makes a base without tables (P4).
func New() *Base { return &Base{} }

// Exec does what a statement says (P4 to P10).
func (b *Base) Exec(src string) api.Result {
	statement, errno, at := syntax.Parse(src)
	if errno != api.OK {
		return api.Result{Err: errno, At: at}
	}
	return b.do(statement)
}

func (b *Base) do(statement syntax.Statement) api.Result {
	if t, ok := statement.(*syntax.Transaction); ok {
		return api.Result{Err: b.turn(t.Word)}
	}
	if errno, at := check.Statement(b.tables, statement); errno != api.OK {
		return api.Result{Err: errno, At: at}
	}
	var result api.Result
	b.tables, result = run.Statement(b.tables, statement)
	return result
}

// turn begins or ends a transaction (P6, P10). What was at begin is kept no
// longer than it may come back.
func (b *Base) turn(word string) api.Errno {
	if b.begun == (word == "begin") {
		return api.ErrState
	}
	switch word {
	case "begin":
		b.begun, b.atBegin = true, b.tables
	case "rollback":
		b.tables = b.atBegin
		fallthrough
	case "commit":
		b.begun, b.atBegin = false, nil
	}
	return api.OK
}
