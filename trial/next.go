// Package trial is what the tests of several layers have in common. Its heart is a world of its own, without goroutines or anything atomic, in which calls are told as the chapters tell them, step by step: what a Play did is held against it. No layer calls it.
package trial

import "butler/api"

// noCell is the cell of what is no step.
const noCell = -1

// Next is what a thread does next in a call: a step, an await, a note, new cells, or, with nothing behind it, the call's answer.
type Next struct {
	op, cell int
	a, b     int
	made     []int
	then     func(got int) Next
	answer   api.Answer
}

// Load goes on with what stands in the cell.
func Load(cell int, then func(v int) Next) Next {
	return Next{op: api.StepLoad, cell: cell, then: then}
}

// Store puts v there.
func Store(cell, v int, then func() Next) Next {
	return Next{op: api.StepStore, cell: cell, a: v, then: func(int) Next { return then() }}
}

// Swap puts v there, and goes on with what stood there.
func Swap(cell, v int, then func(stood int) Next) Next {
	return Next{op: api.StepSwap, cell: cell, a: v, then: then}
}

// Cas puts next there, if old stands there, and goes on with whether it did.
func Cas(cell, old, next int, then func(done bool) Next) Next {
	return Next{op: api.StepCas, cell: cell, a: old, b: next, then: func(stood int) Next { return then(stood == old) }}
}

// Add adds n, and goes on with what stands there then.
func Add(cell, n int, then func(sum int) Next) Next {
	return Next{op: api.StepAdd, cell: cell, a: n, then: func(stood int) Next { return then(stood + n) }}
}

// Await goes on when the cell was changed; with false, if the world is stuck.
func Await(cell int, then func(changed bool) Next) Next {
	return Next{op: api.StepWake, cell: cell, then: func(changed int) Next { return then(changed != 0) }}
}

// Note puts something that is no step behind the trace, and goes on at once.
func Note(op, a, b int, then func() Next) Next {
	return Next{op: op, cell: noCell, a: a, b: b, then: func(int) Next { return then() }}
}

// makes is what it is to make cells, which is no step and not noted.
const makes = -1

// Make makes new cells, in which those stand at first, and goes on at once with the number of the first of them.
func Make(first []int, then func(at int) Next) Next {
	return Next{op: makes, cell: noCell, made: first, then: then}
}

// Over ends the call.
func Over(code api.Errno, value int) Next {
	return Next{answer: api.Answer{Code: code, Value: value}}
}

// leaves is what a step leaves in a cell where that stood.
func (n Next) leaves(stood int) int {
	switch n.op {
	case api.StepStore, api.StepSwap:
		return n.a
	case api.StepAdd:
		return stood + n.a
	case api.StepCas:
		if stood == n.a {
			return n.b
		}
	}
	return stood
}
