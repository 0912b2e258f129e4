package stack_test

import (
	"butler/api"
	"butler/trial"
)

// room is a stack's n: it tells where its cells are.
type room int

// free is the slots' HEAD.
const free = 0

func (n room) stack() trial.Stack { return trial.Stack{Many: int(n)} }

func (n room) next(i int) int  { return n.stack().Slots().Next(i) }
func (n room) used(i int) int  { return n.stack().Slots().Used(i) }
func (n room) head() int       { return n.stack().Head() }
func (n room) value(i int) int { return n.stack().Value(i) }
func (n room) link(i int) int  { return n.stack().Link(i) }

// A HEAD in numbers: a TOP below one, and so many times one as VERSION says.
const (
	one      = 1 << 32
	versions = 1 << 30
)

// cells are what stands there at first.
func (n room) cells() []int { return n.stack().Cells() }

// aged are the cells where these were put when VERSION was that.
func (n room) aged(version int, values ...int) []int {
	cells, pushes := n.cells(), []api.Call{}
	cells[n.head()] = one * version
	for _, v := range values {
		pushes = append(pushes, push(v))
	}
	return n.game(cells, [][]api.Call{pushes}).Play(nil).Stands(cells)
}

// model is a Play by the chapter's words.
func (n room) model(scripts [][]api.Call) trial.Game { return n.game(n.cells(), scripts) }

// game is one that begins with these cells.
func (n room) game(cells []int, scripts [][]api.Call) trial.Game {
	return trial.Game{Cells: cells, Scripts: scripts, Call: func(thread int, c api.Call) trial.Next {
		switch c.Op {
		case 1:
			return n.stack().Push(c.A, func(e api.Errno) trial.Next { return trial.Over(e, 0) })
		case 2:
			return n.stack().Pop(func(v int, e api.Errno) trial.Next { return trial.Over(e, v) })
		}
		return trial.Over(api.ErrArg, 0)
	}}
}
