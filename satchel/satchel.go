// Package satchel: tables as bags, asked by a small SQL: see DOC.md.
package satchel

import (
	"satchel/api"
	"satchel/syntax"
)

// Parse tells whether a text is a statement, as far as its words go: what is wrong, and where (P3).
func Parse(src string) (api.Errno, int) { return syntax.Check(src) }

// Base is tables.
type Base struct{}

// New makes a base without tables (P4).
func New() *Base { return nil }

// Exec does what a statement says (P4 to P10).
func (b *Base) Exec(src string) api.Result { return api.Result{} }
