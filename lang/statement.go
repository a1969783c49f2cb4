package lang

import (
	"slices"

	"rafter/api"
)

// Statement is one of a program's statements: a Set, a Free, a Skip, a Stop, a Mark, a Choose, a Loop, an If or a While. It never changes.
type Statement interface {
	// Place answers where its first token stands.
	Place() api.Place
}

// Nest is a statement with blocks: a Choose, a Loop, an If or a While.
type Nest interface {
	Statement
	// Bodies answers the statements of each block, for the layers above, in lists of their own.
	Bodies() [][]Statement
	// With answers the same statement with these in its blocks, for the layers above: of each block its statements, in the blocks' order.
	With(bodies [][]Statement) Statement
}

// Set makes a variable the value of an expression.
type Set struct {
	spot
	Of Variable
	To Expression
}

// Free makes a variable any number.
type Free struct {
	spot
	Of Variable
}

// Skip does nothing.
type Skip struct{ spot }

// Stop ends the run.
type Stop struct{ spot }

// Mark gives the point where it stands a name.
type Mark struct {
	spot
	Name string
}

// Choose does one of its blocks.
type Choose struct{ blocks }

// Loop does its one block any number of times.
type Loop struct{ blocks }

// If does its first block, if the condition holds, else the second one, if it has one.
type If struct {
	When Condition
	blocks
}

// While does its one block as long as the condition holds.
type While struct {
	When Condition
	blocks
}

// Condition says that two expressions have one value (its sign is `=`), or that they have not (`!=`).
type Condition struct {
	Left  Expression
	Sign  string
	Right Expression
}

// spot is where something stands.
type spot struct{ at api.Place }

func (s spot) Place() api.Place { return s.at }

// block is statements in braces. It stands where the word does that opens it: of a statement's first block the statement's first one, of others `or` or `else`.
type block struct {
	spot
	body []Statement
}

// blocks are those of one statement, at least one.
type blocks []block

func (b blocks) Place() api.Place { return b[0].at }

func (b blocks) Bodies() [][]Statement {
	var out [][]Statement
	for _, one := range b {
		out = append(out, slices.Clone(one.body))
	}
	return out
}

// with answers the same blocks with other statements in them.
func (b blocks) with(bodies [][]Statement) blocks {
	out := slices.Clone(b)
	for i := range min(len(out), len(bodies)) {
		out[i].body = slices.Clone(bodies[i])
	}
	return out
}

func (c Choose) With(bodies [][]Statement) Statement { return Choose{c.with(bodies)} }

func (l Loop) With(bodies [][]Statement) Statement { return Loop{l.with(bodies)} }

func (i If) With(bodies [][]Statement) Statement { return If{i.When, i.with(bodies)} }

func (w While) With(bodies [][]Statement) Statement { return While{w.When, w.with(bodies)} }
