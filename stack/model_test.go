package stack_test

import (
	"butler/api"
	"butler/trial"
)

// room is a stack's n: it tells where its cells are.
type room int

// free is the slots' HEAD.
const free = 0

func (n room) next(i int) int  { return 1 + 2*i }
func (n room) used(i int) int  { return 2 + 2*i }
func (n room) head() int       { return 2*int(n) + 1 }
func (n room) value(i int) int { return 2*int(n) + 2 + 2*i }
func (n room) link(i int) int  { return 2*int(n) + 3 + 2*i }

// A HEAD in numbers: a TOP below one, and so many times one as VERSION says.
const (
	one      = 1 << 32
	versions = 1 << 30
)

func (n room) slots() trial.Slots { return trial.Slots{Many: int(n)} }

// cells are what stands there at first.
func (n room) cells() []int { return append(n.slots().Cells(0), make([]int, 1+2*n)...) }

// aged are the cells where these were put when VERSION was that.
func (n room) aged(version int, values ...int) []int {
	cells, pushes := n.cells(), []api.Call{}
	cells[n.head()] = one * version
	for _, v := range values {
		pushes = append(pushes, push(v))
	}
	return n.game(cells, [][]api.Call{pushes}).Play(nil).Stands(cells)
}

// model is a Play by the chapter's words.
func (n room) model(scripts [][]api.Call) trial.Game { return n.game(n.cells(), scripts) }

// game is one that begins with these cells.
func (n room) game(cells []int, scripts [][]api.Call) trial.Game {
	return trial.Game{Cells: cells, Scripts: scripts, Call: func(thread int, c api.Call) trial.Next {
		switch c.Op {
		case 1:
			return n.toldPush(c.A)
		case 2:
			return n.toldPop()
		}
		return trial.Over(api.ErrArg, 0)
	}}
}

func (n room) toldPush(v int) trial.Next {
	return n.slots().Take(func(i int, e api.Errno) trial.Next {
		if e != api.OK {
			return trial.Over(e, 0)
		}
		return trial.Store(n.value(i), v, func() trial.Next { return n.toldPut(i) })
	})
}

// toldPut is a Push from 3 on.
func (n room) toldPut(i int) trial.Next {
	return trial.Load(n.head(), func(h int) trial.Next {
		return trial.Store(n.link(i), h%one, func() trial.Next {
			return trial.Cas(n.head(), h, trial.Newer(h, i+1), func(done bool) trial.Next {
				if !done {
					return n.toldPut(i)
				}
				return trial.Over(api.OK, 0)
			})
		})
	})
}

func (n room) toldPop() trial.Next {
	return trial.Load(n.head(), func(h int) trial.Next {
		if h%one == 0 {
			return trial.Over(api.ErrStackEmpty, 0)
		}
		i := h%one - 1
		return trial.Load(n.link(i), func(x int) trial.Next {
			return trial.Cas(n.head(), h, trial.Newer(h, x), func(done bool) trial.Next {
				if !done {
					return n.toldPop()
				}
				return n.toldGive(i)
			})
		})
	})
}

// toldGive is a Pop from 4 on.
func (n room) toldGive(i int) trial.Next {
	return trial.Load(n.value(i), func(v int) trial.Next {
		return n.slots().Give(i, func(api.Errno) trial.Next { return trial.Over(api.OK, v) })
	})
}
