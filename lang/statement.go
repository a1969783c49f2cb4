package lang

import "rafter/api"

// statement is one of a program's statements.
type statement interface {
	// place answers where its first token stands.
	place() api.Place
}

// set makes a variable the value of an expression.
type set struct {
	spot
	name string
	to   expression
}

// free makes a variable any number.
type free struct {
	spot
	name string
}

// skip does nothing.
type skip struct{ spot }

// stop ends the run.
type stop struct{ spot }

// mark gives the point where it stands a name.
type mark struct {
	spot
	name string
}

// choose does one of its blocks.
type choose struct{ blocks }

// loop does its one block any number of times.
type loop struct{ blocks }

// branch does its first block, if the condition holds, else the second one, if it has one.
type branch struct {
	when condition
	blocks
}

// while does its one block as long as the condition holds.
type while struct {
	when condition
	blocks
}

// condition says that two expressions have one value, or that they have not.
type condition struct {
	left  expression
	sign  string
	right expression
}

// spot is where something stands.
type spot struct{ at api.Place }

func (s spot) place() api.Place { return s.at }

// block is statements in braces. It stands where the word does that opens it: of a statement's first block the statement's first one, of others `or` or `else`.
type block struct {
	spot
	body []statement
}

// blocks are those of one statement, at least one.
type blocks []block

func (b blocks) place() api.Place { return b[0].at }
