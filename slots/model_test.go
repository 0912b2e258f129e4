package slots_test

import (
	"butler/api"
	"butler/trial"
)

// The cells of a Play: HEAD is 0.
const head = 0

func next(i int) int { return 1 + 2*i }
func used(i int) int { return 2 + 2*i }

// A HEAD in numbers: a FIRST below one, and so many times one as VERSION says.
const (
	one      = 1 << 32
	versions = 1 << 30
)

// cells are what stands there at first, with that VERSION.
func cells(n, version int) []int {
	out := []int{one * version}
	for i := range n {
		out[0] = one*version + 1
		out = append(out, i+2, 0)
	}
	if n > 0 {
		out[next(n-1)] = 0
	}
	return out
}

// model is a Play by the chapter's words.
func model(n int, scripts [][]api.Call) trial.Game { return aged(n, 0, scripts) }

// aged is one that begins with that VERSION.
func aged(n, version int, scripts [][]api.Call) trial.Game {
	var took [][]int // by each thread, and not given by its calls of Op 3
	return trial.Game{
		Cells:   cells(n, version),
		Scripts: scripts,
		Start:   func() { took = make([][]int, len(scripts)) },
		Call: func(thread int, c api.Call) trial.Next {
			mine := &took[thread]
			switch {
			case c.Op == 1:
				return toldTake(func(i int) trial.Next {
					*mine = append(*mine, i)
					return trial.Over(api.OK, i)
				})
			case c.Op == 2:
				return toldGive(n, c.A, 0)
			case c.Op == 3 && len(*mine) > 0:
				last := (*mine)[len(*mine)-1]
				*mine = (*mine)[:len(*mine)-1]
				return toldGive(n, last, last)
			}
			return trial.Over(api.ErrArg, 0)
		},
	}
}

// toldChange is what it is to change HEAD.
func toldChange(h, to int, again, then func() trial.Next) trial.Next {
	return trial.Cas(head, h, to+one*((h/one+1)%versions), func(done bool) trial.Next {
		if !done {
			return again()
		}
		return then()
	})
}

func toldTake(then func(i int) trial.Next) trial.Next {
	return trial.Load(head, func(h int) trial.Next {
		if h%one == 0 {
			return trial.Over(api.ErrSlotsFull, 0)
		}
		i := h%one - 1
		return trial.Load(next(i), func(x int) trial.Next {
			return toldChange(h, x, func() trial.Next { return toldTake(then) }, func() trial.Next {
				return trial.Store(used(i), 1, func() trial.Next { return then(i) })
			})
		})
	})
}

// toldGive is Give of i, of n; OK has that Value.
func toldGive(n, i, value int) trial.Next {
	if i < 0 || i >= n {
		return trial.Over(api.ErrArg, 0)
	}
	return trial.Cas(used(i), 1, 0, func(done bool) trial.Next {
		if !done {
			return trial.Over(api.ErrSlotsFree, 0)
		}
		return toldPut(i, value)
	})
}

// toldPut is what Give does again and again.
func toldPut(i, value int) trial.Next {
	return trial.Load(head, func(h int) trial.Next {
		return trial.Store(next(i), h%one, func() trial.Next {
			return toldChange(h, i+1, func() trial.Next { return toldPut(i, value) }, func() trial.Next { return trial.Over(api.OK, value) })
		})
	})
}
