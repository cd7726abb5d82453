package syntax

import "satchel/api"

// Statement is a *Create, *Drop, *Insert, *Delete, *Update, *Transaction or a Query.
type Statement interface{ isStatement() }

// Name is a word that the statement's writer chose, and its place.
type Name struct {
	Word string
	At   int
}

type Create struct {
	Table   Name
	Columns []NewColumn
}

type NewColumn struct {
	Name Name
	Type int // api.Bool, api.Int or api.Text
}

type Drop struct{ Table Name }

// Insert has Rows or a Query.
type Insert struct {
	Into  int // the place of into
	Table Name
	Rows  []Row
	Query Query
}

type Row struct {
	At    int // the place of its "("
	Exprs []Expr
}

type Delete struct {
	Table Name
	Where *Clause
}

type Update struct {
	Table Name
	Sets  []Set
	Where *Clause
}

type Set struct {
	Column Name
	Equals int // the place of =
	Expr   Expr
}

// Transaction is a begin, a commit or a rollback.
type Transaction struct{ Word string }

// Query is a *Select or a *Combined.
type Query interface {
	Statement
	isQuery()
}

// Combined is two queries with union, except or intersect between them.
type Combined struct {
	Word   string
	At     int
	All    bool
	First  Query
	Second Query
}

// Select has Exprs, or else all columns of what it is from.
type Select struct {
	Distinct bool
	Star     int // the place of *, if there are no Exprs
	Exprs    []Expr
	From     []Source
	Where    *Clause
}

// Source is a table behind a from. It is called what stands behind its name
// there, or else by its name.
type Source struct {
	Table  Name
	Called Name
}

// Clause is a where, when, then or else with its expr. There may be no where
// and no else: then it is nil.
type Clause struct {
	At   int
	Expr Expr
}

// Expr is a *Constant, *Column, *Operation, *Case or *Within.
type Expr interface{ isExpr() }

type Constant struct{ Value api.Value }

// Column is a name in an expr, with that of a table ahead of it or without ("").
type Column struct {
	Table string
	Name  string
	At    int
	// What it means is found out when the names are checked:
	Out    int // how many selects out from the innermost one around it,
	Source int // which of the tables there,
	Cell   int // which of its columns.
}

// Operation is what a sign or a word makes of its operands.
type Operation struct {
	Word     string // + - * / = <> < <= > >= and or not is coalesce
	At       int
	Operands []Expr
}

type Case struct {
	Arms []Arm
	Else *Clause
}

type Arm struct{ When, Then Clause }

// Within is a query within an expr.
type Within struct {
	Word     string // exists, in, or the "(" of a query by itself
	At       int
	Operands []Expr // of in the one ahead of it, else none
	Query    Query
}

func (*Create) isStatement()      {}
func (*Drop) isStatement()        {}
func (*Insert) isStatement()      {}
func (*Delete) isStatement()      {}
func (*Update) isStatement()      {}
func (*Transaction) isStatement() {}
func (*Select) isStatement()      {}
func (*Combined) isStatement()    {}

func (*Select) isQuery()   {}
func (*Combined) isQuery() {}

func (*Constant) isExpr()  {}
func (*Column) isExpr()    {}
func (*Operation) isExpr() {}
func (*Case) isExpr()      {}
func (*Within) isExpr()    {}
